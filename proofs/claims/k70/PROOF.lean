import PyProof.Rows.All
import Wide.All
import OpenK.AllK
import Wide.FinOn
import KE.KExcSuper
import HandS.Words
import HandS.WordsExc
import HandS.Walk
import HandS.Comp
import HandS.ExcIs
import KE.KExcIs
import HandS.Defaults
import HandS.Head0
import HandS.Head1
import HandS.Head2
import HandS.HeadEnd
import HandS.HeadHook1
import HandS.HeadHook2
import HandS.HeadHook3
import PyProof.EqAt
import PyProof.EqKinds
import PyProof.TupleCall
import HandS.ExcInit
import HandS.ExcField
import HandS.TryMany
import HandS.ForMost
import HandS.Wide
import HandS.List
import KE.OsScanText
import HandS.Iter
import HandS.Deep
import HandS.Style
import HandS.WideBits
import HandS.More
import HandS.CallLocal
import HandS.IsInst
import HandS.SlotsOwn
import PyProof.InstEq
import HandS.RaiseMore
import PyProof.InstNe
import KE.KDictZip
import KE.KDictLaws
import HandS.Zip
import KE.KTupSum
import HandS.NoneIn
import HandS.DictComp
import PySem.Challenge.RW_heldplaces_k70_book_plays_by_hand
set_option Elab.async false
set_option linter.all false
set_option maxRecDepth 100000
set_option maxHeartbeats 4000000
namespace Law
open PySem L2
abbrev veTail : List Value := [.type "ValueError", .type "Exception", .type "BaseException", .type "object"]
end Law
namespace Hd
open PySem PySem.Spec PyProof.Rows L2 He
abbrev FnO : Type := Option (Str × Str × Arguments × FuncBody × Scope × Addr × List Str × Addr)
def fnO (K : PySem.W.Frag) (a : Addr) : FnO := match K.lookup a with
  | some ⟨_, _, .func fd, _⟩ => some (fd.name, fd.qualname, fd.params, fd.body, fd.scope, fd.globals, fd.closure.map (·.1), fd.builtins)
  | _ => none
def isNon : Value → Bool
  | .none => true
  | _ => false
def fnB (K : PySem.W.Frag) (a : Addr) (q : Str) : Bool := PySem.W.keepIn K (.ref a) && (match K.lookup a with
  | some ⟨_, _, .func fd, _⟩ => PySem.W.codeIn K fd.code q && isNon fd.defaults
  | _ => false)
/-- a def's value, as it is awaited -/
def fnV (x qual : Str) (st : Stmt) (cl : List Str) : FnO := some (x, qual, defArgs st, .stmts (defBody st), defScope st, mainGlobals, cl, builtinsNs)
def fileB (P : Program) (K : PySem.W.Frag) (cda : Addr) : Bool := match K.lookup cda with
  | some ⟨_, _, .fields vs, _⟩ => (match (vs[2]? : Option Value) with
    | some (.str file _) => (P.main.file : Str) == file
    | _ => false)
  | _ => false
def cellB (K : PySem.W.Frag) (cc C : Addr) : Bool := match K.lookup cc with
  | some ⟨_, _, .cell (some (.ref D)), _⟩ => D == C
  | _ => false
def refOf : Value → Option Addr
  | .ref a => some a
  | _ => none
def initB (P : Program) (K : PySem.W.Frag) (C : Addr) (qual : Str) (fd : FuncData) : Bool := isNon fd.defaults && (match fd.closure with
  | [q] => (match refOf fd.code with
    | some cda => PySem.W.codeIn K (.ref cda) qual && (fileB P K cda && cellB K q.2 C)
    | none => false)
  | _ => false)
def clsB (K : PySem.W.Frag) (C CH : Addr) : Bool := match K.lookup C with
  | some ⟨.type "type", _, .cls cd, sl⟩ => decide (cd.mro = .ref C :: .ref CH :: Law.veTail) && (cd.hasDict && (!cd.hasDel && (match sl.toList with
    | [_, _, _, _, some (.builtin n), _] => n == "ValueError.__new__"
    | _ => false)))
  | _ => false
/-- all of an error class that is asked of the written part, by its name -/
def errB (P : Program) (K : PySem.W.Frag) (x hn qual : Str) (fs : List Str) : Bool :=
  eqO (PySem.W.nsIn K mainGlobals x) (some (some (.ref (ga K x)))) && (clsB K (ga K x) (ga K hn) && (eqO (PySem.W.findIn K (.ref (ga K x)) "__init__") (some (some (.ref (ma K (ga K x) "__init__")))) &&
  ((match K.lookup (ma K (ga K x) "__init__") with
    | some ⟨_, _, .func fd, _⟩ => initB P K (ga K x) qual fd
    | _ => false) && (decide (PySem.W.typeIn K (.ref (ma K (ga K x) "__init__")) = some (.type "function")) && (eqO (PySem.W.findIn K (.ref (ga K x)) "__setattr__") (some (some (.builtin "object.__setattr__"))) &&
  (eqO (PySem.W.findIn K (.ref (ga K x)) "__getattribute__") (some (some (.builtin "BaseException.__getattribute__"))) && (eqO (PySem.W.findIn K (.ref (ga K x)) "__getattr__") (some none) && (eqO (PySem.W.findIn K (.ref (ga K x)) "__class__") (some (some (.builtin "object.__class__"))) &&
  (decide (PySem.W.typeIn K (.ref (ga K x)) = some (.type "type")) && (PySem.W.keepIn K (.ref (ga K x)) && (eqO (PySem.W.ks_superIn K (ga K x) (ga K x) "__init__") (some (some (.builtin "ValueError.__init__"))) && fs.all fun f => eqO (PySem.W.findIn K (.ref (ga K x)) f) (some none))))))))))))
/-- the facts that all classes share -/
def comB (K : PySem.W.Frag) : Bool := eqO (PySem.W.nsIn K cStatics "thirdparty.any") (some none) && (eqO (PySem.W.specialIn K (.builtin "object.__class__") "__get__") (some (some (.builtin "getset_descriptor.__get__"))) && decide (PySem.W.takesIn K (.builtin "object.__class__") = some true))
abbrev TabO : Type := List (Option (List (Option (Str × Int))))
def tabO (ts : List (Str × List Str)) (K : PySem.W.Frag) : TabO := ts.map fun t => dicW K (ga K t.1)
def tabV (ts : List (Str × List Str)) (w : World) : TabO := ts.map fun t => some (keysIn w.params t.2)
def hookL (as : List Addr) (ex : PySem.W.Frag → Bool) (fv : PySem.W.Frag → List FnO) (fw : List FnO) (ts : List (Str × List Str)) : PySem.W.Hook where
  α := (Bool × List FnO) × TabO
  obs := fun s => ((ex (frG s.heap.get? as), fv (frG s.heap.get? as)), tabO ts (frG s.heap.get? as))
  val := fun w => ((true, fw), tabV ts w)
  says := fun w h => ∃ K : PySem.W.Frag, K.In h ∧ ex K = true ∧ fv K = fw ∧ tabO ts K = tabV ts w
  of := fun _ _ e => ⟨_, frG_in, (Prod.mk.inj (Prod.mk.inj e).1).1, (Prod.mk.inj (Prod.mk.inj e).1).2, (Prod.mk.inj e).2⟩
  keeps := fun _ _ _ ⟨K, hK, c⟩ k => ⟨K, PySem.W.Frag.In.keeps hK k, c⟩
def obL (as : List Addr) (ex : PySem.W.Frag → Bool) (fv : PySem.W.Frag → List FnO) (ts : List (Str × List Str)) (s : PySem.W.SharedT) : (Bool × List FnO) × TabO :=
  ((ex (frG (HandSHeadRun.getT s) as), fv (frG (HandSHeadRun.getT s) as)), tabO ts (frG (HandSHeadRun.getT s) as))
def tupAt (K : PySem.W.Frag) (a : Addr) (xs : List Str) : Bool := match K.lookup a with
  | some ⟨.type c, _, .seq its _, _⟩ => decide (c = "tuple") && (decide (its.size ≤ sizeLine) && relAll (xs.map V.str) its.toList)
  | _ => false
/-- what a dict has for a key, as an address -/
def atK (K : PySem.W.Frag) (d : Addr) (k : Str) : Addr := match PySem.W.nsIn K d k with
  | some (some (.ref a)) => a
  | _ => 0
def atB (K : PySem.W.Frag) (d : Addr) (k : Str) : Bool := eqO (PySem.W.nsIn K d k) (some (some (.ref (atK K d k))))
def dflB (K : PySem.W.Frag) (dv : Value) (dvs : List V) : Bool := match dv with
  | .ref T => (match K.lookup T with
    | some ⟨_, _, .seq its _, _⟩ => relAll dvs its.toList
    | _ => false)
  | _ => false
def fnDB (K : PySem.W.Frag) (a : Addr) (q : Str) (dvs : List V) : Bool := PySem.W.keepIn K (.ref a) && (match K.lookup a with
  | some ⟨_, _, .func fd, _⟩ => PySem.W.codeIn K fd.code q && dflB K fd.defaults dvs
  | _ => false)
def flatV' : PyData → V
  | .str z => .str z
  | .int i => .int i
  | .bool b => .bl b
  | _ => .non
def flatOk : PyData → Bool
  | .str _ => true
  | .int _ => true
  | .bool _ => true
  | .none => true
  | _ => false
def datB (K : PySem.W.Frag) (v : Value) (d : PyData) : Bool := match v, d with
  | .ref a, .tuple ds => ds.all flatOk && (match K.lookup a with
    | some ⟨.type c, _, .seq its _, _⟩ => decide (c = "tuple") && (decide (its.size ≤ sizeLine) && relAll (ds.map flatV') its.toList)
    | _ => false)
  | _, _ => false
def entAll (K : PySem.W.Frag) : List DictEntry → List (Str × PyData) → Bool
  | [], [] => true
  | e :: es, (x, d) :: r => (match e.key with
    | .str k _ => decide (k = x) && datB K e.val d
    | _ => false) && (!e.refKey && entAll K es r)
  | _, _ => false
def entB (K : PySem.W.Frag) (a : Addr) (l : List (Str × PyData)) : Bool := match K.lookup a with
  | some ⟨_, _, .dict es _, _⟩ => entAll K es.toList l
  | _ => false
end Hd
namespace IdL
open PySem PySem.Spec PyProof.Rows L2 He Hd
def top (i : Nat) : Stmt := PySem.Challenge.pw_heldplaces_k70_book_plays_by_hand.main.body.getD i (.Pass ⟨0, 0, 0, 0⟩)
def esAll : List DictEntry → List (Str × Str) → Bool
  | [], [] => true
  | e :: es, (x, y) :: r => (match e.key, e.val with
    | .str k _, .str v _ => decide (k = x) && decide (v = y)
    | _, _ => false) && esAll es r
  | _, _ => false
def esB (K : PySem.W.Frag) (a : Addr) (phr : List (Str × Str)) : Bool := match K.lookup a with
  | some ⟨_, _, .dict es _, _⟩ => esAll es.toList phr
  | _ => false
def fnmOf (i : Nat) : Str := ((["split_lines", "is_number", "read_term", "read_sum", "read_part", "split_parts", "read_test", "is_spaced", "close_block", "read_forms", "read_code", "step_on", "find_ways", "read_sealed", "read_setting"] : List Str) ++ (["read_move", "read_book_line", "is_for", "most_of", "counted_names", "way_break", "least_refused", "read_keep", "is_whole", "is_from", "is_between", "check_size", "are_lengths", "is_book_case", "fields_of"] : List Str) ++ (["places_back", "places_on", "seals_of", "owed_by_note", "owed_by_fail", "owed_by_undo", "owed_by_redo", "owed_by", "told_fields_of", "is_place", "term_value", "sum_value", "compare", "test_holds", "set_name"] : List Str) ++ (["play_set", "play_wrap", "play_sealed", "play_write", "times_of", "play_back", "play_again", "play_forms", "breaks_done", "broken_promises", "play_book", "_law_begun_pen", "_law_draw", "_law_terms", "_law_sum_text"] : List Str) ++ (["_law_rows_lines", "_law_text", "_law_set", "_law_wrap", "_law_if", "_law_right", "_law_hand_rows", "_law_far_rows", "_law_turned", "law"] : List Str)).getD i ""
def ftxOf (i : Nat) : Stmt := top ((([32, 33, 34, 35, 36, 37, 38, 39, 40, 41, 42, 43, 44, 51, 52] : List Nat) ++ ([53, 54, 84, 86, 85, 87, 88, 95, 2, 3, 4, 56, 6, 7, 8] : List Nat) ++ ([11, 12, 9, 13, 14, 15, 16, 17, 61, 62, 63, 64, 58, 65, 66] : List Nat) ++ ([67, 68, 69, 70, 71, 72, 73, 75, 77, 78, 80, 98, 99, 100, 101] : List Nat) ++ ([102, 103, 104, 105, 106, 107, 108, 109, 110, 111] : List Nat)).getD i 0)
def enmOf (i : Nat) : Str := ((["BadKind", "BadLine", "Refused", "BadSize", "BadCase", "BadSum", "TooMany"] : List Str)).getD i ""
def equOf (i : Nat) : Str := ((["BadKind.__init__", "BadLine.__init__", "Refused.__init__", "BadSize.__init__", "BadCase.__init__", "BadSum.__init__", "TooMany.__init__"] : List Str)).getD i ""
def efsOf (i : Nat) : List Str := (([["kind"], ["line"], ["line"], ["size"], ["case"], ["text"], ["what", "many", "most"]] : List (List Str))).getD i []
abbrev estOf (i : Nat) : Stmt := inClass (top ((([20, 21, 22, 23, 24, 25, 26] : List Nat)).getD i 0)) 0
def faL : List Fa := ([.free "len", .free "int", .free "list", .free "tuple", .free "enumerate", .free "isinstance", .free "dict", .free "min", .free "super", .free "range", .free "bool", .free "sum", .free "str", .free "abs", .free "all"] : List Fa) ++ ([.free "zip", .int "MOST_FIGURES" 30, .int "MOST_TERMS" 4, .int "MOST_PARTS" 4, .int "MOST_SETTINGS" 2, .int "MOST_LINES" 30, .int "MOST_IFS" 6, .glo "ENDING", .glo "FIELDS", .glo "REGISTERS", .glo "NAMES", .glo "PLACES", .glo "WORDS", .glo "KINDS", .glo "KINDS_OF_WORDS"] : List Fa) ++ ([.glo "STEPS", .glo "BookCode", .glo "BookRules", .glo "BookDesk", .glo "BookPlay", .glo "Owed", .glo "HeldError", .cls "BookCode", .noat "BookCode" "kind", .noat "BookCode" "rules", .noat "BookCode" "text", .noat "BookCode" "rows", .noat "BookCode" "forms", .noat "BookCode" "jumps", .noat "BookCode" "answers"] : List Fa) ++ ([.mkr "BookCode", .cls "BookRules", .noat "BookRules" "keep", .noat "BookRules" "times", .noat "BookRules" "more", .mkr "BookRules", .cls "BookDesk", .noat "BookDesk" "names", .noat "BookDesk" "size", .noat "BookDesk" "seals", .noat "BookDesk" "written", .noat "BookDesk" "back", .noat "BookDesk" "again", .noat "BookDesk" "is_changed", .mkr "BookDesk"] : List Fa) ++ ([.cls "BookPlay", .noat "BookPlay" "ended", .noat "BookPlay" "fields", .noat "BookPlay" "written", .noat "BookPlay" "back", .noat "BookPlay" "again", .noat "BookPlay" "seals", .noat "BookPlay" "broken", .mkr "BookPlay", .cls "Owed", .noat "Owed" "written", .noat "Owed" "back", .noat "Owed" "again", .noat "Owed" "fields", .mkr "Owed"] : List Fa) ++ ([.meth "BookRules" "kept_rows", .meth "BookRules" "in_use"] : List Fa)
def tabL : List (Str × List Str) := [("STEPS", ["set", "wrap", "sealed", "write", "back", "again"]), ("KINDS_OF_WORDS", ["write", "sealed", "back", "again"])]
abbrev PR : Program := PySem.Challenge.pw_heldplaces_k70_book_plays_by_hand
def exL (K : PySem.W.Frag) : List Bool := [
  comB K,
  (List.range 7).all (fun k => errB PR K (enmOf k) "HeldError" (equOf k) (efsOf k)),
  (List.range 70).all (fun i => fnB K (ga K (fnmOf i)) (fnmOf i) && eqO (PySem.W.nsIn K mainGlobals (fnmOf i)) (some (some (.ref (ga K (fnmOf i)))))),
  faL.all (fun f => f.ok K),
  tupAt K (ga K "ENDING") (["no", "quit", "accept", "refuse"] : List Str),
  tupAt K (ga K "FIELDS") (["next", "many", "more", "own", "mark"] : List Str),
  tupAt K (ga K "REGISTERS") (["a", "b", "c"] : List Str),
  tupAt K (ga K "NAMES") (["size", "keep", "next", "many", "more", "own", "mark", "a", "b", "c"] : List Str),
  tupAt K (ga K "PLACES") (["a", "b", "c", "next", "mark"] : List Str),
  tupAt K (ga K "WORDS") (["else", "end", "no", "quit"] : List Str),
  tupAt K (ga K "KINDS") (["note", "fail", "undo", "redo"] : List Str),
  entB K (ga K "KINDS_OF_WORDS") (([("write", ["note"]), ("sealed", ["note", "undo", "redo"]), ("back", ["fail", "undo"]), ("again", ["redo"])] : List (Str × List Str)).map fun p => (p.1, .tuple (p.2.map PyData.str)) : List (Str × PyData)),
  fnB K (ma K (ga K "BookCode") "__init__") "BookCode.__init__",
  fnB K (ma K (ga K "BookRules") "__init__") "BookRules.__init__",
  fnB K (ma K (ga K "BookRules") "kept_rows") "BookRules.kept_rows",
  fnB K (ma K (ga K "BookRules") "in_use") "BookRules.in_use",
  fnB K (ma K (ga K "BookDesk") "__init__") "BookDesk.__init__",
  fnB K (ma K (ga K "BookPlay") "__init__") "BookPlay.__init__",
  fnB K (ma K (ga K "Owed") "__init__") "Owed.__init__",
  atB K (ga K "STEPS") "set" && decide (atK K (ga K "STEPS") "set" = ga K "play_set"),
  atB K (ga K "STEPS") "wrap" && decide (atK K (ga K "STEPS") "wrap" = ga K "play_wrap"),
  atB K (ga K "STEPS") "sealed" && decide (atK K (ga K "STEPS") "sealed" = ga K "play_sealed"),
  atB K (ga K "STEPS") "write" && decide (atK K (ga K "STEPS") "write" = ga K "play_write"),
  atB K (ga K "STEPS") "back" && decide (atK K (ga K "STEPS") "back" = ga K "play_back"),
  atB K (ga K "STEPS") "again" && decide (atK K (ga K "STEPS") "again" = ga K "play_again")]
def exK (K : PySem.W.Frag) : Bool := (exL K).all id
def fvK (K : PySem.W.Frag) : List FnO := (List.range 70).map (fun i => fnO K (ga K (fnmOf i))) ++ ((List.range 7).map (fun k => fnO K (ma K (ga K (enmOf k)) "__init__")) ++ [fnO K (ma K (ga K "BookCode") "__init__"), fnO K (ma K (ga K "BookRules") "__init__"), fnO K (ma K (ga K "BookRules") "kept_rows"), fnO K (ma K (ga K "BookRules") "in_use"), fnO K (ma K (ga K "BookDesk") "__init__"), fnO K (ma K (ga K "BookPlay") "__init__"), fnO K (ma K (ga K "Owed") "__init__")])
def fwK : List FnO := (List.range 70).map (fun i => fnV (fnmOf i) (fnmOf i) (ftxOf i) []) ++ ((List.range 7).map (fun k => fnV "__init__" (equOf k) (estOf k) ["__class__"]) ++ [fnV "__init__" "BookCode.__init__" (inClass (top 93) 0) [], fnV "__init__" "BookRules.__init__" (inClass (top 96) 0) [], fnV "kept_rows" "BookRules.kept_rows" (inClass (top 96) 1) [], fnV "in_use" "BookRules.in_use" (inClass (top 96) 2) [], fnV "__init__" "BookDesk.__init__" (inClass (top 60) 0) [], fnV "__init__" "BookPlay.__init__" (inClass (top 79) 0) [], fnV "__init__" "Owed.__init__" (inClass (top 10) 0) []])
end IdL
namespace IdL
open PySem PySem.W PySem.Calls PyProof.Rows
abbrev RR : OpenRow := OpenLaw.row PySem.Challenge.rw_heldplaces_k70_book_plays_by_hand
def adsL : List Addr := [2, 3, 27, 28, 34, 35, 41, 42, 46, 47, 53, 54, 60, 61, 67, 68, 81, 82, 84, 85, 93, 94, 98, 99, 105, 106, 112, 113, 119, 120, 126, 127, 133, 134, 143, 144, 151, 162, 163, 165, 166, 172, 183, 184, 186, 187, 193, 204, 205, 207, 208, 214, 225, 226, 228, 229, 235, 246, 247, 249, 250, 256, 267, 268, 270, 271, 277, 288, 289, 291, 292, 295, 301, 302, 308, 309, 315, 316, 322, 323, 329, 330, 336, 337, 341, 342, 348, 349, 355, 356, 362, 363, 367, 368, 374, 375, 381, 382, 383, 384, 385, 386, 387, 393, 394, 400, 401, 407, 408, 414, 415, 421, 422, 428, 429, 442, 443, 445, 446, 454, 455, 461, 462, 468, 469, 473, 474, 478, 479, 485, 486, 492, 493, 499, 500, 506, 507, 513, 514, 520, 521, 527, 528, 534, 535, 536, 542, 543, 549, 550, 556, 557, 570, 571, 573, 574, 584, 585, 586, 587, 588, 589, 590, 596, 597, 603, 604, 610, 611, 617, 618, 622, 623, 624, 637, 638, 668, 669, 679, 680, 691, 692, 698, 699, 705, 706, 722, 723, 733, 734, 740, 741, 747, 748, 754, 755, 759, 760, 766, 767, 773, 774, 780, 781, 787, 788, 794, 795, 799, 800, 806, 807, 813, 814, 818, 819]
abbrev hkL : Hook := Hd.hookL adsL exK fvK fwK tabL
def loose0 : List PySem.Str := ["_wall", "is_whole", "is_from", "is_between", "are_lengths", "is_book_case", "fields_of", "seals_of", "Owed", "places_back", "places_on", "owed_by_note", "owed_by_fail", "owed_by_undo", "owed_by_redo", "owed_by", "HeldError", "BadKind"]
def loose1 : List PySem.Str := ["BadLine", "Refused", "BadSize", "BadCase", "BadSum", "TooMany", "ENDING", "MOST_FIGURES", "MOST_TERMS", "MOST_PARTS", "split_lines", "is_number", "read_term", "read_sum", "read_part", "split_parts", "read_test", "is_spaced"]
def loose2 : List PySem.Str := ["close_block", "read_forms", "read_code", "step_on", "find_ways", "FIELDS", "REGISTERS", "NAMES", "PLACES", "WORDS", "read_sealed", "read_setting", "read_move", "read_book_line", "check_size", "compare", "BookDesk", "told_fields_of"]
def loose3 : List PySem.Str := ["is_place", "term_value", "sum_value", "test_holds", "set_name", "play_set", "play_wrap", "play_sealed", "play_write", "times_of", "play_back", "play_again", "STEPS", "play_forms", "breaks_done", "broken_promises", "BookPlay", "play_book"]
def loose4 : List PySem.Str := ["MOST_SETTINGS", "KINDS_OF_WORDS", "is_for", "counted_names", "most_of", "way_break", "least_refused", "KINDS", "MOST_LINES", "MOST_IFS", "BookCode", "read_keep", "BookRules", "_law_begun_pen", "_law_draw", "_law_terms", "_law_sum_text", "_law_rows_lines"]
def loose5 : List PySem.Str := ["_law_text", "_law_set", "_law_wrap", "_law_if", "_law_right", "_law_hand_rows", "_law_far_rows", "_law_turned"]
def looseL : List PySem.Str := loose0 ++ loose1 ++ loose2 ++ loose3 ++ loose4 ++ loose5
theorem runF (w : World) : HandSHeadRun.RunEq RR (view RR.prog [111]) hkL (Hd.obL adsL exK fvK tabL) 20000 looseL (w.withFollow "special-get-raises" false) := by
  intro os
  kernel_rfl
theorem runT (w : World) : HandSHeadRun.RunEq RR (view RR.prog [111]) hkL (Hd.obL adsL exK fvK tabL) 20000 looseL (w.withFollow "special-get-raises" true) := by
  intro os
  kernel_rfl
theorem run (w : World) : HandSHeadRun.RunEq RR (view RR.prog [111]) hkL (Hd.obL adsL exK fvK tabL) 20000 looseL w := by
  have e := World.withFollow_self w "special-get-raises"
  cases hb : w.params.followText "special-get-raises" <;> rw [hb] at e
  · rw [← e]; exact runF w
  · rw [← e]; exact runT w
end IdL
/-! Own error classes over an own class over ValueError, whose __init__ says super().__init__('..') and then stores its arguments. -/
namespace Er
open PySem PySem.W PySem.Calls PyProof.Rows

/-- super().__init__('..') as a statement of the text -/
def supSt (msg : Str) (j : Nat) (p0 p1 p2 p3 p4 p5 p6 : Pos) : Stmt :=
  .Expr (.Call (.Attribute (.Call (.Name "super" p0) [] [] p1) "__init__" p2) [.Constant (.str msg) j p3] [] p4) p5
/-- self.f = f -/
def fldSt (f : Str) (q1 q2 q3 q4 : Pos) : Stmt := .Assign [.Attribute (.Name "self" q1) f q2] (.Name f q3) q4

/-- what the top has written of one error class at C, and of its __init__ at fI -/
structure Txt (P : Program) (K : Frag) (C fI : Addr) (qual : Str) (st : Stmt) (fs : List Str) : Prop where
  oc : L2.OexC K C
  xf : L2.XfC K C
  iC : findIn K (.ref C) "__init__" = some (some (.ref fI))
  tI : typeIn K (.ref fI) = some (.type "function")
  sup : ks_superIn K C C "__init__" = some (some (.builtin "ValueError.__init__"))
  sC : mroIn K C (.ref C) = some true
  sV : subIn K (.ref C) (.type "ValueError") = some true
  anyS : nsIn K cStatics "thirdparty.any" = some none
  noN : ∀ f ∈ fs, findIn K (.ref C) f = some none
  top : (P.main.scope.names.lookup ("super" : Str)).isSome = false
  fn : ∃ (a0 : Value) (a1 : Option Addr) (kV doc pm ct : Value) (an : Option Addr) (cda cc : Addr) (a2 : Array (Option Value)) (b0 c0 : Value) (b1 c1 : Option Addr) (vs : Array Value) (b2 c2 : Array (Option Value)) (file : Str) (tf : Tok),
    K.lookup fI = some ⟨a0, a1, .func (ksFn "__init__" qual (L2.defArgs st) (L2.defBody st) (L2.defScope st) .none kV doc pm an (.ref cda) ct cc), a2⟩ ∧ codeIn K (.ref cda) qual = true ∧
    K.lookup cda = some ⟨b0, b1, .fields vs, b2⟩ ∧ vs[2]? = some (.str file tf) ∧ ((P.main.file : Str) == file) = true ∧ K.lookup cc = some ⟨c0, c1, .cell (some (.ref C)), c2⟩

section
variable {P : Program} {w : World} {A : Around} {E : Value → Shared → Prop} {K : Frag} {C fI x t0 u : Addr}

/-- the bound built-in __init__ is called: the args are laid anew -/
theorem wrapped {hp : Heap} {g : Array GenState} {d : Drawn} {t : Nat} {os : OsState} {rest : List Value} {Q : Value → Shared → Prop} (T : L2.OexC K C) (X : K.In hp)
    (he : hp.get? x = some (HandSPX.excO C t0)) (hu : hp.get? u = some (kxs_mw "ValueError.__init__" x)) (hz : rest.length ≤ sizeLine)
    (hq : ∀ h' t1, (∀ b o, b ≠ x → hp.get? b = some o → h'.get? b = some o) → h'.get? x = some (HandSPX.excO C t1) → Q .none ⟨h', g, d, t, os⟩) :
    wpAny (model P w) A (call (.ref u) rest) Q E ⟨hp, g, d, t, os⟩ := by
  obtain ⟨nm, q, N, bs, bm, sn, sub, ab, col, dd, k0, k1, k2, k3, k5, hC, hbm⟩ := T.cls
  refine wpAny_call (codeAny_of_tree (show wpAny _ A.in1 (callAny (.ref u) ⟨rest, []⟩) _ _ _ from ?_))
  unfold callAny; refine wpAny_bind (wpAny_load hu ?_)
  simp only [kxs_mw, show ((Value.type "method-wrapper" == Value.type "method") || (Value.type "method-wrapper" == Value.type "builtin_function_or_method") || (Value.type "method-wrapper" == Value.type "method-wrapper")) = true from by decide, if_true]
  refine KFB.if_so (by decide) (wpAny_bind (check_bound_init F.excBase_ValueError.toExcCallFacts (X _ _ hC) he rfl (wpAny_bind (wpAny_pure (wpAny_pure ?_)))))
  exact ⟨plainId_quiet F.excBase_ValueError.init.plain _, codeAny_builtin F.excBase_ValueError.initEntry (exc_init_tree (cls := .ref C) (t0 := t0) (dv := none) (c2 := .none) (c3 := .none) (b4 := .bool false) he hz fun h' k e _ => hq h' _ k e)⟩
end

section
variable {P : Program} {w : World} {A : Around} {E : Value → Shared → Prop} {K : Frag} {C fI x t0 : Addr} {qual : Str} {st : Stmt} {fs : List Str} {mg mb m : Str → Option Value} {body : List Stmt} {s : Shared}
/-- super().__init__('..') in the frame of __init__ -/
theorem sup_at (T : Txt P K C fI qual st fs) {cda cc L : Addr} {a0 b0 c0 kV doc pm ct : Value} {a1 b1 c1 an : Option Addr} {a2 b2 c2 : Array (Option Value)} {vs : Array Value} {file : Str} {tf : Tok} {ar : Arg}
    (hfn : K.lookup fI = some ⟨a0, a1, .func (ksFn "__init__" qual (L2.defArgs st) (L2.defBody st) (L2.defScope st) .none kV doc pm an (.ref cda) ct cc), a2⟩)
    (hco : K.lookup cda = some ⟨b0, b1, .fields vs, b2⟩) (hvs : vs[2]? = some (.str file tf)) (hfile : ((P.main.file : Str) == file) = true) (hce : K.lookup cc = some ⟨c0, c1, .cell (some (.ref C)), c2⟩)
    (har : ((L2.defArgs st).posonlyargs ++ (L2.defArgs st).args).head? = some ar) (hself : m ar.arg = some (.ref x)) (hka : (L2.defScope st).names.lookup ar.arg = some .local)
    (hk : (L2.defScope st).kind = .function) (hks : (L2.defScope st).names.lookup ("super" : Str) = some .globalImplicit) (hkc : (L2.defScope st).names.lookup ("__class__" : Str) = some .free)
    (X : K.In s.heap) (hL : s.heap.Ns L m) (hx : s.heap.get? x = some (HandSPX.excO C t0)) (G : s.heap.Ns mainGlobals mg) (hm : mg "super" = none) (B : s.heap.Ns builtinsNs mb) (hb : mb "super" = some (.type "super"))
    {msg : Str} {j : Nat} {p0 p1 p2 p3 p4 p5 p6 : Pos} {Q : Flow → Shared → Prop} (hpos : (p2.endLine == p4.line) = true)
    (hq : ∀ h' tk t1, (∀ b o, b ≠ x → s.heap.get? b = some o → h'.get? b = some o) → h'.get? x = some (HandSPX.excO C t1) → Q .next { s with heap := h', toks := tk }) :
    _root_.PySem.wpAt (model P w) A (.func body (ksEnv qual (L2.defScope st) L fI (.ref cda) cc)) (exec (supSt msg j p0 p1 p2 p3 p4 p5 p6) (ksEnv qual (L2.defScope st) L fI (.ref cda) cc)) Q E s := by
  obtain ⟨nm, q, N, bs, bm, sn, sub, ab, col, dd, k0, k1, k2, k3, k5, hC, hbm⟩ := T.oc.cls
  have hcl : clsIn K C = some { name := nm, bases := bs, mro := .ref C :: bm, ns := N, qualname := q, hasDict := true, slotNames := sn, subclasses := sub, abstract := ab, collection := col, hasDel := false } := by
    unfold clsIn; rw [hC] <;> rfl
  have al : alongIn K "__init__" (((Value.ref C :: bm).dropWhile (· != .ref C)).drop 1) = some (some (.builtin "ValueError.__init__")) := by
    have y := T.sup
    unfold ks_superIn at y
    rw [hcl] at y
    exact y
  have xC : x ≠ C := fun z => by
    have y := X _ _ hC
    rw [← z, hx] at y
    cases y
  obtain ⟨hp, g, d, tk, os⟩ := s
  have eq : eval (.Call (.Attribute (.Call (.Name "super" p0) [] [] p1) "__init__" p2) [.Constant (.str msg) j p3] [] p4) (ksEnv qual (L2.defScope st) L fI (.ref cda) cc) = (do
      let ov ← attributeBase (.Call (.Name "super" p0) [] [] p1) "__init__" (ksEnv qual (L2.defScope st) L fI (.ref cda) cc) (eval (.Call (.Name "super" p0) [] [] p1) (ksEnv qual (L2.defScope st) L fI (.ref cda) cc))
      standAt p2.atName
      let (f, first) ← holding [ov] (getMethod ov "__init__" (do return (← importBound (.Call (.Name "super" p0) [] [] p1) (ksEnv qual (L2.defScope st) L fI (.ref cda) cc)).getD true))
      callWith p4 f first (backTo p4 (starEach [.Constant (.str msg) j p3] (ksEnv qual (L2.defScope st) L fI (.ref cda) cc))) []) := by
    show (do
      let ov ← attributeBase (.Call (.Name "super" p0) [] [] p1) "__init__" (ksEnv qual (L2.defScope st) L fI (.ref cda) cc) (eval (.Call (.Name "super" p0) [] [] p1) (ksEnv qual (L2.defScope st) L fI (.ref cda) cc))
      standAt p2.atName
      methodCall (.Call (.Name "super" p0) [] [] p1) "__init__" p2 p4 (ksEnv qual (L2.defScope st) L fI (.ref cda) cc) ov 1 (backTo p4 (starEach [.Constant (.str msg) j p3] (ksEnv qual (L2.defScope st) L fI (.ref cda) cc))) []) = _
    have few : methodCallForm 1 (backTo p4 (starEach [.Constant (.str msg) j p3] (ksEnv qual (L2.defScope st) L fI (.ref cda) cc))) [] = true := by rfl
    unfold methodCall methodCallPos calleeOf
    simp only [few, hpos, Bool.or_true, if_true, pure_bind]
  refine ks_wpAt_Expr_any (ks_wpAt_MethodCall (ks_wpAt_super_base (env := ksEnv qual (L2.defScope st) L fI (.ref cda) cc) hks hkc ?cn rfl (X _ _ hfn) rfl har rfl (X _ _ hco) rfl hvs hfile T.top ?_) eq) (by unfold interactive; simp [ksEnv, envX, hk])
  case cn => decide
  refine ks_loadName_global hk hks (loadGlobal_builtin (env := ksEnv qual (L2.defScope st) L fI (.ref cda) cc) G hm B hb ⟨rfl, ?_⟩)
  refine wpAny_loadName_free hk hkc rfl ⟨_, X _ _ hce, rfl⟩ (wpAny_loadName_local hk hka hL hself ?_)
  refine ks_wpAny_isType_cls (X _ _ hC) rfl ⟨rfl, ks_wpAny_call_super (X _ _ hC) rfl hx rfl (fun c z => by cases z) (looks_mroIn X T.sC) fun h1 e1 n1 => ?_⟩
  have X1 : K.In h1 := X.keeps n1
  have I1 : InstAt h1 x (HandSPX.excO C t0) C none := ⟨n1 _ _ hx, rfl, rfl, trivial⟩
  refine kxs_getMethod kxs_ValueError e1 (looks_opaque X1 T.anyS) (l₀ := .ref C :: bm) (fun A Q E s k q => wpAny_bind ((looks_clsIn X1 hcl) A _ E s k (wpAny_pure q))) rfl X1 al (I1.type.andThen (looks_subIn X1 T.sV)) xC (by decide) ?_
  have eu : (h1.push (kxs_mw "ValueError.__init__" x)).get? h1.objs.size = some (kxs_mw "ValueError.__init__" x) := Heap.get?_push_at rfl rfl
  have n2 : ∀ b o, h1.get? b = some o → (h1.push (kxs_mw "ValueError.__init__" x)).get? b = some o := fun b o e => Heap.get?_push_of_some _ e
  refine kxs_callWith (i := "ValueError.__init__") (x := x) (by rfl) (evalArgs_plain (spliced_cons (Constant_str (pos := p3) (k := j) (spliced_nil ⟨eu, ?_⟩))))
  refine wrapped T.oc (X1.keeps n2) (n2 _ _ (n1 _ _ hx)) eu (by rw [sizeLine_eq]; exact (by decide : 1 ≤ 16777216)) fun h' t1 k e => hq h' _ t1 (fun b o hb y => k b o hb (n2 b o (n1 b o y))) e
end
/-! ### the def: its text, its stores -/
structure Form (st : Stmt) (fs : List Str) : Prop where
  body : ∃ (msg : Str) (j : Nat) (p0 p1 p2 p3 p4 p5 p6 : Pos) (qs : List (Pos × Pos × Pos × Pos)), qs.length = fs.length ∧ (p2.endLine == p4.line) = true ∧ L2.defBody st = supSt msg j p0 p1 p2 p3 p4 p5 p6 :: (fs.zip qs).map fun y => fldSt y.1 y.2.1 y.2.2.1 y.2.2.2.1 y.2.2.2.2
  bind : ∀ (s : Shared) (us : List Value) (qual : Str) (kV doc pm ct cd : Value) (an : Option Addr) (cc : Addr), us.length = fs.length + 1 →
    BindsTo s (ksFn "__init__" qual (L2.defArgs st) (L2.defBody st) (L2.defScope st) .none kV doc pm an cd ct cc) ⟨us, []⟩ ((("self" : Str) :: fs).zip us)
  head : ∃ ar, ((L2.defArgs st).posonlyargs ++ (L2.defArgs st).args).head? = some ar ∧ ar.arg = "self"
  kind : (L2.defScope st).kind = .function
  co : (L2.defScope st).isCoroutine = false
  gen : (L2.defScope st).isGenerator = false
  nocell : ∀ x ∈ (L2.defScope st).names, x.2 ≠ .cell
  lsup : (L2.defScope st).names.lookup ("super" : Str) = some .globalImplicit
  lcls : (L2.defScope st).names.lookup ("__class__" : Str) = some .free
  lloc : ∀ f ∈ ("self" : Str) :: fs, (L2.defScope st).names.lookup f = some .local
  dbg : ∀ f ∈ ("self" : Str) :: fs, (f == ("__debug__" : Str)) = false
  nd : (("self" : Str) :: fs).Nodup

/-- the fields of a namespace, the later ones ahead -/
def nsOf : List (Str × Value) → Str → Option Value
  | [], _ => none
  | (f, v) :: r, y => if y = f then some v else nsOf r y

/-- at x: the exception, its dict (none, or with the fields r) -/
def Half (h : Heap) (x C : Addr) (d : Option Addr) (r : List (Str × Value)) : Prop :=
  (∃ t1 : Addr, h.get? x = some ({ cls := .ref C, dict := d, data := .fields #[.ref t1, .none, .none, .none, .bool false, .none] } : Obj)) ∧
  match d with
  | none => r = []
  | some dd => dd ≠ x ∧ h.Ns1 dd (nsOf r)

theorem nsOf_within : ∀ (r : List (Str × Value)), Within (nsOf r) (r.map (·.1))
  | [] => fun y hy => absurd rfl hy
  | (f, v) :: r => fun y hy => by
    by_cases h : y = f
    · rw [h]; exact List.mem_cons_self ..
    · refine List.mem_cons_of_mem _ (nsOf_within r y ?_)
      intro z
      exact hy ((if_neg h).trans z)

section
variable {P : Program} {w : World} {A : Around} {E : Value → Shared → Prop} {K : Frag} {C fI x : Addr} {qual : Str} {st : Stmt} {fs : List Str} {m : Str → Option Value} {env : Env}
/-- one store -/
theorem fld_at (T : L2.OexC K C) {f : Str} (hno : findIn K (.ref C) f = some none) {hp : Heap} {g : Array GenState} {dr : Drawn} {t : Nat} {os : OsState} {v : Value} {d : Option Addr} {r : List (Str × Value)} {q1 q2 q3 q4 : Pos} {Q : Flow → Shared → Prop}
    (hk : env.scope.kind = .function) (lf : env.kindOf f = some .local) (ls : env.kindOf "self" = some .local) (df : (f == ("__debug__" : Str)) = false)
    (X : K.In hp) (hL : hp.Ns env.locals m) (hf : m f = some v) (hs : m "self" = some (.ref x)) (hx : Half hp x C d r) (hz : r.length ≤ 900)
    (hq : ∀ h' tk d', (∀ b o, b ≠ x → some b ≠ d → hp.get? b = some o → h'.get? b = some o) → (∀ dd, d' = some dd → d = none → hp.objs.size ≤ dd) → (∀ dd, d = some dd → d' = some dd) → d' ≠ none → Half h' x C d' ((f, v) :: r) → Q .next ⟨h', g, dr, tk, os⟩) :
    wpAny (model P w) A (exec (fldSt f q1 q2 q3 q4) env) Q E ⟨hp, g, dr, t, os⟩ := by
  obtain ⟨nm, q, N, bs, bm, sn, sub, ab, col, dd, k0, k1, k2, k3, k5, hC, hbm⟩ := T.cls
  have hcl : clsIn K C = some { name := nm, bases := bs, mro := .ref C :: bm, ns := N, qualname := q, hasDict := true, slotNames := sn, subclasses := sub, abstract := ab, collection := col, hasDel := false } := by
    unfold clsIn; rw [hC] <;> rfl
  obtain ⟨⟨t1, ho⟩, hd⟩ := hx
  refine plainObj_wpAny_Assign_Attribute (wpAny_Name (wpAny_loadName_local hk lf hL hf (wpAny_Name (wpAny_loadName_local hk ls hL hs ?_) (by decide))) df) rfl
  cases d with
  | none =>
    obtain rfl : r = [] := hd
    refine set_plain X (ox := { cls := .ref C, dict := none, data := .fields #[.ref t1, .none, .none, .none, .bool false, .none] }) (od := none) ⟨ho, rfl, rfl, trivial⟩ T.sa ?_
    refine HandSPX.exc_osa X ho hcl (show HandSPX.refsVE (.ref C :: bm) = true from hbm) rfl hno (fun h' tk' dx k dn dne hx hn => ?_)
    exact hq h' tk' (some dx) (fun b o hb _ e => k b o hb e) (fun dd e _ => by cases e; exact dn) (fun dd e => by cases e) (by intro z; cases z) ⟨⟨t1, hx⟩, dne, hn⟩
  | some dx =>
    obtain ⟨dne, hn⟩ : dx ≠ x ∧ hp.Ns1 dx (nsOf r) := hd
    have hw := nsOf_within r
    obtain ⟨oD, _, _, hoD, _, _⟩ := hn.count hw
    refine set_plain X (ox := { cls := .ref C, dict := some dx, data := .fields #[.ref t1, .none, .none, .none, .bool false, .none] }) (od := some oD) ⟨ho, rfl, rfl, hoD⟩ T.sa ?_
    refine OEX.osa_old X ho hn hw (by rw [List.length_map]; omega) hcl (show HandSPX.refsVE (.ref C :: bm) = true from hbm) rfl hno (fun h' tk' k hn' => ?_)
    exact hq h' tk' (some dx) (fun b o _ hb e => k b o (fun z => hb (by rw [z])) e) (fun dd _ e => by cases e) (fun dd e => e) (by intro z; cases z) ⟨⟨t1, k x _ (Ne.symm dne) ho⟩, dne, hn'⟩
end
end Er
namespace Er
open PySem PySem.W PySem.Calls PyProof.Rows
section
variable {P : Program} {w : World} {A : Around} {E : Value → Shared → Prop} {K : Frag} {C fI x : Addr} {qual : Str} {st : Stmt} {fs : List Str} {m : Str → Option Value} {env : Env}
theorem lookup_mem {β : Type} : ∀ {l : List (Str × β)} {p : Str × β}, (l.map (·.1)).Nodup → p ∈ l → l.lookup p.1 = some p.2
  | [], p, _, hp => by cases hp
  | (f, v) :: l, p, nd, hp => by
    have nd' : f ∉ l.map (·.1) ∧ (l.map (·.1)).Nodup := by simpa using nd
    rcases List.mem_cons.mp hp with e | e
    · rw [e]
      simp [List.lookup]
    · have ne : p.1 ≠ f := fun z => nd'.1 (z ▸ List.mem_map_of_mem e)
      have q : (p.1 == f) = false := by simpa using ne
      have := lookup_mem nd'.2 e
      simp [List.lookup, q, this]
theorem zip_nodup {β : Type} : ∀ (ks : List Str) (zs : List β), ks.Nodup → ((ks.zip zs).map (·.1)).Nodup
  | [], _, _ => List.nodup_nil
  | _ :: _, [], _ => List.nodup_nil
  | k :: ks, z :: zs, nd => by
    have nd' : k ∉ ks ∧ ks.Nodup := by simpa using nd
    show (k :: (ks.zip zs).map (·.1)).Nodup
    refine List.nodup_cons.mpr ⟨fun hk => ?_, zip_nodup ks zs nd'.2⟩
    obtain ⟨y, hy, e⟩ := List.mem_map.mp hk
    exact nd'.1 (e ▸ (List.of_mem_zip (a := y.1) (b := y.2) hy).1)
theorem in_but {K : Frag} {h h' : Heap} {x : Addr} {d : Option Addr} (X : K.In h) (hx : K.lookup x = none) (hd : ∀ dd, d = some dd → K.lookup dd = none)
    (k : ∀ b o, b ≠ x → some b ≠ d → h.get? b = some o → h'.get? b = some o) : K.In h' := fun a o e =>
  k a o (fun z => by rw [z, hx] at e; cases e) (fun z => by rw [hd a z.symm] at e; cases e) (X a o e)
theorem free_of {K : Frag} {h : Heap} {a : Addr} (X : K.In h) (z : h.objs.size ≤ a) : K.lookup a = none := by
  cases e : K.lookup a with
  | none => rfl
  | some o => exact absurd (Heap.lt_size (X a o e)) (Nat.not_lt.mpr z)
theorem ns_but {h h' : Heap} {L : Addr} (n : h.Ns L m) (k : ∀ o, h.get? L = some o → h'.get? L = some o) : h'.Ns L m := by
  obtain ⟨oL, es, ep, hL, r⟩ := n
  exact ⟨oL, es, ep, k _ hL, r⟩
/-- the stores, one after the other -/
theorem flds_at (T : L2.OexC K C) (hk : env.scope.kind = .function) (ls : env.kindOf "self" = some .local) (hs : m "self" = some (.ref x)) (xL : env.locals ≠ x) (nx : K.lookup x = none) {g : Array GenState} {dr : Drawn} {os : OsState} {Q : Flow → Shared → Prop} :
    ∀ (ys : List (Str × Pos × Pos × Pos × Pos)) (vs : List Value) (hl : ys.length = vs.length) (no : ∀ y ∈ ys, findIn K (.ref C) y.1 = some none ∧ env.kindOf y.1 = some .local ∧ (y.1 == ("__debug__" : Str)) = false)
      (mv : ∀ p ∈ (ys.map (·.1)).zip vs, m p.1 = some p.2) {hp : Heap} {t : Nat} {d : Option Addr} {r : List (Str × Value)} (hx : Half hp x C d r) (hz : r.length + ys.length ≤ 900) (hL : hp.Ns env.locals m) (dL : some env.locals ≠ d) (X : K.In hp)
      (nd : ∀ dd, d = some dd → K.lookup dd = none)
      (hq : ∀ h' tk d', (∀ b o, b ≠ x → some b ≠ d → hp.get? b = some o → h'.get? b = some o) → (∀ dd, d' = some dd → d = none → hp.objs.size ≤ dd) → (∀ dd, d = some dd → d' = some dd) → (ys ≠ [] → d' ≠ none) → (ys = [] → d' = d) →
        Half h' x C d' (((ys.map (·.1)).zip vs).reverse ++ r) → Q .next ⟨h', g, dr, tk, os⟩),
      wpAny (model P w) A (execs (ys.map fun y => fldSt y.1 y.2.1 y.2.2.1 y.2.2.2.1 y.2.2.2.2) env) Q E ⟨hp, g, dr, t, os⟩
  | [], vs, hl, _, _, hp, t, d, r, hx, _, _, _, _, _, hq => by
    refine wpAny_execs_nil (hq hp t d (fun _ _ _ _ e => e) (fun dd e z => by rw [z] at e; cases e) (fun _ e => e) (fun z => absurd rfl z) (fun _ => rfl) ?_)
    show Half hp x C d ([] ++ r)
    exact hx
  | y :: ys, [], hl, _, _, hp, t, d, r, _, _, _, _, _, _, _ => by cases hl
  | y :: ys, v :: vs, hl, no, mv, hp, t, d, r, hx, hz, hL, dL, X, nd, hq => by
    obtain ⟨n1, n2, n3⟩ := no y (List.mem_cons_self ..)
    have hz1 : r.length + (ys.length + 1) ≤ 900 := hz
    show wpAny (model P w) A (execs (fldSt y.1 y.2.1 y.2.2.1 y.2.2.2.1 y.2.2.2.2 :: ys.map fun y => fldSt y.1 y.2.1 y.2.2.1 y.2.2.2.1 y.2.2.2.2) env) Q E ⟨hp, g, dr, t, os⟩
    refine wpAny_execs_cons (fld_at T n1 hk n2 ls n3 X hL (mv (y.1, v) (List.mem_cons_self ..)) hs hx (by omega) fun h1 t1 d1 k1 s1 e1 z1 H1 => ?_)
    show wpAny (model P w) A (execs (ys.map fun y => fldSt y.1 y.2.1 y.2.2.1 y.2.2.2.1 y.2.2.2.2) env) Q E ⟨h1, g, dr, t1, os⟩
    obtain ⟨oL, esL, epL, hoL, _⟩ := id hL
    have d1L : some env.locals ≠ d1 := fun z => by
      cases d with
      | none => exact absurd (s1 _ z.symm rfl) (Nat.not_le.mpr (Heap.lt_size hoL))
      | some dd =>
        have q := e1 dd rfl
        rw [← z] at q
        exact dL q
    have nd1 : ∀ dd, d1 = some dd → K.lookup dd = none := fun dd z => by
      cases d with
      | none => exact free_of X (s1 _ z rfl)
      | some d0 =>
        have q := e1 d0 rfl
        rw [z] at q
        cases q
        exact nd _ rfl
    refine flds_at T hk ls hs xL nx ys vs (Nat.succ.inj hl) (fun y' hy => no y' (List.mem_cons_of_mem _ hy)) (fun p hp => mv p (List.mem_cons_of_mem _ hp)) H1 (by simp only [List.length_cons]; omega) (ns_but hL fun o e => k1 _ o xL dL e) d1L (in_but X nx nd k1) nd1
      fun h' tk d' k2 s2 e2 z2 w2 H2 => hq h' tk d' (fun b o hb hd e => ?_) (fun dd z y0 => ?_) (fun dd z => e2 dd (e1 dd z)) (fun _ z => ?_) (fun z => by cases z) ?_
    · refine k2 b o hb (fun z => ?_) (k1 b o hb hd e)
      cases d with
      | none => exact absurd (s1 b z.symm rfl) (Nat.not_le.mpr (Heap.lt_size e))
      | some dd =>
        have q := e1 dd rfl
        rw [← z] at q
        exact hd q
    · cases hd1 : d1 with
      | none => exact absurd hd1 z1
      | some dd1 =>
        have q := e2 dd1 hd1
        rw [z] at q
        cases q
        exact s1 dd hd1 y0
    · cases hd1 : d1 with
      | none => exact z1 hd1
      | some dd1 =>
        have q := e2 dd1 hd1
        rw [z] at q
        cases q
    · have e : (((y :: ys).map (·.1)).zip (v :: vs)).reverse ++ r = ((ys.map (·.1)).zip vs).reverse ++ ((y.1, v) :: r) := by
        simp
      rw [e]
      exact H2
/-- __init__ of an error class: what it leaves at the new exception x -/
theorem init_run (T : Txt P K C fI qual st fs) (F : Form st fs) {s : Shared} {t0 : Addr} {us : List Value} {mg mb : Str → Option Value} {R : Result → Shared → Prop} (hl : us.length = fs.length) (hf : fs.length ≤ 900)
    (X : K.In s.heap) (lim : s.heap.NoLimit) (hx : s.heap.get? x = some (HandSPX.excO C t0)) (nx : K.lookup x = none) (hroom : A.depth < recursionLimit)
    (G : s.heap.Ns mainGlobals mg) (hm : mg "super" = none) (B : s.heap.Ns builtinsNs mb) (hb : mb "super" = some (.type "super"))
    (hxg : x ≠ mainGlobals) (hxb : x ≠ builtinsNs)
    (hq : ∀ h' tk d, (∀ b o, b ≠ x → s.heap.get? b = some o → h'.get? b = some o) → (∀ dd, d = some dd → s.heap.objs.size ≤ dd) → (fs ≠ [] → d ≠ none) → (fs = [] → d = none) → Half h' x C d ((fs.zip us).reverse) → R (.ok (.ret .none)) { s with heap := h', toks := tk }) :
    codeAny (model P w) A (.call (.ref fI) ⟨.ref x :: us, []⟩) R s := by
  obtain ⟨a0, a1, kV, doc, pm, ct, an, cda, cc, a2, b0, c0, b1, c1, vs, b2, c2, file, tf, hfn, hcd, hco, hvs, hfile, hce⟩ := T.fn
  obtain ⟨msg, j, p0, p1, p2, p3, p4, p5, p6, qs, hqs, hpos, hbody⟩ := F.body
  obtain ⟨ar, har, har1⟩ := F.head
  have ll := F.lloc
  have nodup := F.nd
  have binds_loc : ∀ y ∈ (("self" : Str) :: fs).zip (.ref x :: us), (L2.defScope st).names.lookup y.1 = some .local := fun y hy => ll _ (List.of_mem_zip (a := y.1) (b := y.2) hy).1
  refine ks_codeAny_call_defAt (fd := ksFn "__init__" qual (L2.defArgs st) (L2.defBody st) (L2.defScope st) .none kV doc pm an (.ref cda) ct cc) hroom (X _ _ hfn) rfl lim (codeRec_of X hcd) rfl (F.bind s (.ref x :: us) qual kV doc pm ct (.ref cda) an cc (by simp [hl])) F.nocell binds_loc (fun h₁ hns k₁ => ?_) F.co F.gen F.kind
  generalize hm1 : (fun y : Str => ((("self" : Str) :: fs).zip (Value.ref x :: us)).reverse.lookup y) = m1 at hns
  have look : ∀ {ks : List Str} {zs : List Value}, ks.Nodup → ∀ p ∈ ks.zip zs, (ks.zip zs).reverse.lookup p.1 = some p.2 := by
    intro ks zs nd p hp
    have nd2 : (((ks.zip zs).reverse).map (·.1)).Nodup := by
      rw [List.map_reverse]
      refine (List.reverse_perm _).nodup_iff.mpr ?_
      exact zip_nodup ks zs nd
    have hp2 : p ∈ (ks.zip zs).reverse := List.mem_reverse.mpr hp
    exact lookup_mem nd2 hp2
  have hself : m1 "self" = some (.ref x) := by
    rw [← hm1]
    exact look nodup (("self" : Str), Value.ref x) (List.mem_cons_self ..)
  have hX1 : K.In h₁ := X.keeps k₁
  show _root_.PySem.wpAt (model P w) _ (.func (L2.defBody st) (ksEnv qual (L2.defScope st) s.heap.objs.size fI (.ref cda) cc)) (execs (L2.defBody st) (ksEnv qual (L2.defScope st) s.heap.objs.size fI (.ref cda) cc)) _ _ _
  rw [hbody]
  have xL : s.heap.objs.size ≠ x := Nat.ne_of_gt (Heap.lt_size hx)
  refine ks_wpAt_execs_cons (sup_at (p6 := p6) T hfn hco hvs hfile hce har (by rw [har1]; exact hself) (by rw [har1]; exact ll _ (List.mem_cons_self ..)) F.kind F.lsup F.lcls hX1 hns (k₁ _ _ hx) (ns_but G fun o e => k₁ _ o e) hm (ns_but B fun o e => k₁ _ o e) hb hpos fun h2 tk2 t1 k2 e2 => ?_)
  have neC : ∀ b o, b ≠ x → s.heap.get? b = some o → h2.get? b = some o := fun b o hb e => k2 b o hb (k₁ b o e)
  refine wpAt_of_wpAny ?_
  show wpAny _ _ (execs ((fs.zip qs).map fun y => fldSt y.1 y.2.1 y.2.2.1 y.2.2.2.1 y.2.2.2.2) _) _ _ _
  have hmap : (fs.zip qs).map (·.1) = fs := List.map_fst_zip (by omega)
  refine flds_at (env := ksEnv qual (L2.defScope st) s.heap.objs.size fI (.ref cda) cc) (m := m1) (x := x) (d := none) (r := []) T.oc F.kind (ll _ (List.mem_cons_self ..)) hself xL nx (fs.zip qs) us (by rw [List.length_zip]; omega) (fun y hy => ?_) (fun p hp => ?_) ⟨⟨t1, e2⟩, rfl⟩ (by rw [List.length_zip]; simp; omega)
    (ns_but hns fun o e => k2 _ o xL e) (by intro z; cases z) (fun a o e => ?_) (fun dd z => by cases z) fun h3 tk3 d k3 s3 _ z3 w3 H3 => hq h3 tk3 d (fun b o hb e => k3 b o hb (by intro z; cases z) (neC b o hb e)) (fun dd z => ?_) (fun z => z3 ?_) (fun z => w3 ?_) ?_
  · have hy1 : y.1 ∈ fs := (List.of_mem_zip (a := y.1) (b := y.2) hy).1
    exact ⟨T.noN _ hy1, ll _ (List.mem_cons_of_mem _ hy1), F.dbg _ (List.mem_cons_of_mem _ hy1)⟩
  · rw [hmap] at hp
    rw [← hm1]
    exact look nodup p (List.mem_cons_of_mem _ hp)
  · exact neC a o (fun z => by rw [z, nx] at e; cases e) (X a o e)
  · have q := s3 dd z rfl
    have q2 : s.heap.objs.size < h2.objs.size := by
      obtain ⟨oL, esL, epL, hoL, _⟩ := id hns
      exact Heap.lt_size (k2 _ _ xL hoL)
    exact Nat.le_of_lt (Nat.lt_of_lt_of_le q2 q)
  · intro e
    cases fs with
    | nil => exact z rfl
    | cons f fs =>
      cases qs with
      | nil => cases hqs
      | cons q qs => cases e
  · rw [z]; rfl
  · rw [hmap, List.append_nil] at H3
    exact H3
end
end Er
namespace Er
open PySem PySem.W PySem.Calls PyProof.Rows
section
variable {P : Program} {w : World} {A : Around} {E : Value → Shared → Prop} {K : Frag} {C fI x : Addr} {qual : Str} {st : Stmt} {fs : List Str}
/-- C(..), C an error class -/
theorem made (T : Txt P K C fI qual st fs) (FM : Form st fs) {s : Shared} {us : List Value} {mg mb : Str → Option Value} {R : Result → Shared → Prop} (hl : us.length = fs.length) (hf : fs.length ≤ 900)
    (X : K.In s.heap) (lim : s.heap.NoLimit) (hroom : A.depth + 1 < recursionLimit) (G : s.heap.Ns mainGlobals mg) (hm : mg "super" = none) (B : s.heap.Ns builtinsNs mb) (hb : mb "super" = some (.type "super"))
    (hq : ∀ h' tk e d, (∀ b o, s.heap.get? b = some o → h'.get? b = some o) → s.heap.objs.size ≤ e → (∀ dd, d = some dd → s.heap.objs.size ≤ dd) → (fs ≠ [] → d ≠ none) → (fs = [] → d = none) → Half h' e C d ((fs.zip us).reverse) → R (.ok (.ret (.ref e))) { s with heap := h', toks := tk }) :
    codeAny (model P w) A (.call (.ref C) ⟨us, []⟩) R s := by
  obtain ⟨nm, q, N, bs, bm, sn, sub, ab, col, dd, k0, k1, k2, k3, k5, hC, hbm⟩ := T.oc.cls
  obtain ⟨hp, g, dr, tk, os⟩ := s
  have k : ∀ b o, hp.get? b = some o → ((hp.push (kdv_tup us)).push (HandSPX.excO C hp.objs.size)).get? b = some o := fun b o e => Heap.get?_push_of_some _ (Heap.get?_push_of_some _ e)
  have hget : ((hp.push (kdv_tup us)).push (HandSPX.excO C hp.objs.size)).get? (hp.objs.size + 1) = some (HandSPX.excO C hp.objs.size) := by heap_get
  have far : ∀ {a : Addr} {o : Obj}, hp.get? a = some o → hp.objs.size + 1 ≠ a := fun {a o} e => Nat.ne_of_gt (Nat.lt_succ_of_lt (Heap.lt_size e))
  have hus : us.length ≤ sizeLine := by rw [sizeLine_eq]; omega
  have gl : hp.objs.size + 1 ≠ mainGlobals := by
    obtain ⟨oL, esL, epL, hoL, _⟩ := id G
    exact far hoL
  have bl : hp.objs.size + 1 ≠ builtinsNs := by
    obtain ⟨oL, esL, epL, hoL, _⟩ := id B
    exact far hoL
  have sz : ((hp.push (kdv_tup us)).push (HandSPX.excO C hp.objs.size)).objs.size = hp.objs.size + 1 + 1 := by rw [Heap.size_push, Heap.size_push]
  refine HandSPX.call_own F.excBase_ValueError (fun Y => HandSPX.refsVE_contains Y bm hbm) (X _ _ hC) (looks_findIn X T.iC) (fun self => bind_fn X self T.tI) hus ?_
  refine init_run (s := ⟨(hp.push (kdv_tup us)).push (HandSPX.excO C hp.objs.size), g, dr, tk, os⟩) T FM hl hf (X.keeps k) (lim.keeps k) hget (free_of X (Nat.le_succ _)) hroom (ns_but G fun o e => k _ o e) hm (ns_but B fun o e => k _ o e) hb gl bl fun h' tk' d k' s' z' w' H' => ?_
  refine ⟨rfl, hq h' tk' (hp.objs.size + 1) d (fun b o e => k' b o (Ne.symm (far e)) (k b o e)) (Nat.le_succ _) (fun dd z => ?_) z' w' H'⟩
  have q := s' dd z
  have q2 : ((hp.push (kdv_tup us)).push (HandSPX.excO C hp.objs.size)).objs.size ≤ dd := q
  rw [sz] at q2
  exact Nat.le_trans (Nat.le_trans (Nat.le_succ _) (Nat.le_succ _)) q2
end
end Er

namespace L2
open PySem PySem.Spec PyProof.Rows
theorem relO_ns : ∀ {fs : List Str} {vs : List V} {us : List Value} (r : Vals vs us) (r0 : List (Str × V)) (s0 : List (Str × Value)), (∀ f, RelO (r0.lookup f) (Er.nsOf s0 f)) →
    ∀ f, RelO (((fs.zip vs).reverse ++ r0).lookup f) (Er.nsOf ((fs.zip us).reverse ++ s0) f)
  | [], _, _, _, r0, s0, h, f => h f
  | k :: fs, [], [], _, r0, s0, h, f => h f
  | k :: fs, x :: xs, y :: ys, .cons r rs, r0, s0, h, f => by
    have e1 : ((k :: fs).zip (x :: xs)).reverse ++ r0 = ((fs.zip xs).reverse ++ ((k, x) :: r0)) := by simp
    have e2 : ((k :: fs).zip (y :: ys)).reverse ++ s0 = ((fs.zip ys).reverse ++ ((k, y) :: s0)) := by simp
    rw [e1, e2]
    exact relO_ns rs _ _ (relO_put r h) f
/-- C(e, ..), C an error class with the fields fs -/
def tMkE (C : Addr) (fs : List Str) (ta : TA) : St → Hp → XK → Prop := fun σ H Q => ta σ H fun vs H1 => vs.length = fs.length ∧ (fs = [] → Q (.ref C) none H1) ∧ (fs ≠ [] → ∀ d, H1 d = none → Q (.ref C) (some d) (upd H1 d (.xd (fs.zip vs).reverse)))
section
variable {X : Cx} {C fI : Addr} {qual x : Str} {st : Stmt} {fs : List Str} {e : Expr} {es : List Expr} {ta : TA} {p pos : Pos} {k : Nat}
theorem mk_err (T : Er.Txt X.prog X.K C fI qual st fs) (F : Er.Form st fs) (hf : fs.length ≤ 900) (hs : X.mg "super" = none) (hr : Room k X.A) {pins : List (Addr × Obj)} {s1 : Shared} {σ : St} {H1 : Hp} {Q : XK} {us : List Value} {vs : List V}
    (I1 : Inv X pins σ H1 s1) (r1 : Vals vs us) (hl : vs.length = fs.length) (q0 : fs = [] → Q (.ref C) none H1) (q1 : fs ≠ [] → ∀ d, H1 d = none → Q (.ref C) (some d) (upd H1 d (.xd (fs.zip vs).reverse))) :
    wpAny (model X.prog X.w) X.A (call (.ref C) us) (MkP X pins σ Q) X.xe s1 := by
  have hlim := I1.nolimit
  have hul : us.length = fs.length := by rw [← r1.length]; exact hl
  obtain ⟨mb, hB, hbt⟩ := I1.ok.mod.blt
  have G : s1.heap.Ns mainGlobals X.mg := I1.ok.mod.glob.keeps I1.bk
  have B : s1.heap.Ns builtinsNs mb := hB.keeps I1.bk
  have hb : mb "super" = some (.type "super") := (hbt _ (by decide +kernel)).trans (by decide +kernel)
  have XI := I1.kIn
  have hok := I1.hok
  obtain ⟨hp, g, dr, tk, os⟩ := s1
  refine wpAny_call (Er.made T F hul hf XI hlim (by have := hr.dp; omega) G hs B hb fun h' tk' e d kp ne nd z w Hh => ?_)
  show MkP X pins σ Q (.ref e) ⟨h', g, dr, tk', os⟩
  obtain ⟨⟨t1, hoe⟩, hd⟩ := Hh
  obtain ⟨G', g1, g2⟩ := restrict h' fun b => decide (b ≠ e)
  have gk : ∀ b, b ≠ e → G'.get? b = h'.get? b := fun b hb => g1 b (decide_eq_true hb)
  have ge : G'.get? e = none := g2 e (by simp)
  have old : ∀ b o, hp.get? b = some o → G'.get? b = some o := fun b o q => (gk b (Nat.ne_of_lt (Nat.lt_of_lt_of_le (Heap.lt_size q) ne))).trans (kp b o q)
  have back : ∀ b o, G'.get? b = some o → h'.get? b = some o := fun b o q => by
    by_cases hb : b = e
    · rw [hb, ge] at q; cases q
    · exact (gk b hb).symm.trans q
  have He : H1 e = none := hok.fresh ne
  cases d with
  | none =>
    have hfs : fs = [] := by
      cases fs with
      | nil => rfl
      | cons f fs => exact absurd rfl (z (by intro y; cases y))
    have J : Inv X pins σ H1 ⟨G', g, dr, tk', os⟩ := I1.kept (t' := tk') old
    exact ⟨e, _, _, ⟨G', g, dr, tk', os⟩, H1, .ref C, none, rfl, J, back, ge, hoe, ⟨rfl, rfl⟩, rfl, rfl, He, rfl, I1.bare, raises_own T.oc.exC T.oc.tyC, q0 hfs⟩
  | some dd =>
    obtain ⟨dne, hns⟩ : dd ≠ e ∧ h'.Ns1 dd (Er.nsOf (fs.zip us).reverse) := hd
    have hfs : fs ≠ [] := fun y => by cases w y
    have rel : ∀ f, RelO (((fs.zip vs).reverse).lookup f) (Er.nsOf ((fs.zip us).reverse) f) := fun f => by
      have q := relO_ns (fs := fs) r1 [] [] (fun _ => True.intro) f
      rw [List.append_nil, List.append_nil] at q
      exact q
    have ob : ObjOk X.prog X.w (upd H1 dd (.xd (fs.zip vs).reverse)) G' dd (.xd (fs.zip vs).reverse) := ⟨_, hns.at (fun o q => (gk dd dne).trans q), rel⟩
    have J : Inv X pins σ (upd H1 dd (.xd (fs.zip vs).reverse)) ⟨G', g, dr, tk', os⟩ := I1.laid (t' := tk') old (nd dd rfl) ob
    refine ⟨e, _, _, ⟨G', g, dr, tk', os⟩, _, .ref C, some dd, rfl, J, back, ge, hoe, ⟨rfl, rfl⟩, rfl, rfl, ?_, rfl, I1.bare, raises_own T.oc.exC T.oc.tyC, q1 hfs dd (hok.fresh (nd dd rfl))⟩
    rw [upd_ne (Ne.symm dne)]
    exact He
/-- with arguments -/
theorem pmk_err (T : Er.Txt X.prog X.K C fI qual st fs) (F : Er.Form st fs) (hf : fs.length ≤ 900) (gC : X.mg x = some (.ref C)) (hs : X.mg "super" = none) (hr : Room k X.A) (ha : PA X (e :: es) ta) (hg : Gl X x := by rfl) (hdb : (x == ("__debug__" : Str)) = false := by decide)
    (he : starEach (e :: es) X.env = (false, eval e X.env) :: starEach es X.env := by rfl) (hpl : (backTo pos (starEach es X.env)).any (·.1) = false := by rfl) : PMk X (.Call (.Name x p) (e :: es) [] pos) (tMkE C fs ta) := by
  intro pins s σ H Q I h
  refine wpAny_Call_Name_kw (ld_glob I hg gC (PySem.W.callWith_K (h₀ := X.base) I.ok.mod.kin T.oc.kC (thn (ha.run pos pins s σ H _ I h) fun us s1 hh => ?_) he hpl) hdb)
  obtain ⟨vs, H1, I1, r1, hl, q0, q1⟩ := hh
  exact ⟨I1.kIn, mk_err T F hf hs hr I1 r1 hl q0 q1⟩
/-- without arguments -/
theorem pmk_err0 (T : Er.Txt X.prog X.K C fI qual st []) (F : Er.Form st []) (gC : X.mg x = some (.ref C)) (hs : X.mg "super" = none) (hr : Room k X.A) (hg : Gl X x := by rfl) (hdb : (x == ("__debug__" : Str)) = false := by decide) :
    PMk X (.Call (.Name x p) [] [] pos) (tMkE C [] tNil) := by
  intro pins s σ H Q I h
  obtain ⟨hl, q0, q1⟩ : _ ∧ _ ∧ _ := h
  exact wpAny_Call_Name_kw (ld_glob I hg gC (PySem.W.callWith_K0 I.kIn T.oc.kC (mk_err T F (Nat.zero_le _) hs hr I .nil hl q0 q1)) hdb)
end
end L2
/-! try with several except clauses, each with a name or without. -/
namespace L2
open PySem PySem.Spec PyProof.Rows
/-- a clause: the class that it names, the slot of its name, its suite -/
structure Cl where
  c : Value
  i : Option Nat
  ts : Addr → Value → Option Addr → TS
/-- the end of a suite whose name is slot i's -/
def offE (i : Option Nat) (D : Ends) : Ends := match i with
  | none => D
  | some i => { nx := fun σ H => D.nx (σ.set i none) H, rt := D.rt, bk := fun σ H => D.bk (σ.set i none) H, ct := fun σ H => D.ct (σ.set i none) H }
def onS (i : Option Nat) (a : Addr) (σ : St) : St := match i with
  | none => σ
  | some i => σ.set i (some (.ref a))
/-- what the clauses wish of an exception of the body -/
def wCl (K : PySem.W.Frag) (Wout : WX) (D : Ends) : List Cl → WX
  | [] => Wout
  | q :: r => fun cls d σ H => ∃ b, PySem.W.exmOne K cls q.c = some b ∧ (b = true → ∀ a, H a = none → q.ts a cls d (offE q.i D) (onS q.i a σ) H) ∧ (b = false → wCl K Wout D r cls d σ H)
/-- how a clause of the text is read -/
structure ClOk (X : Cx) (x : Str) (nm : Option Str) (body : List Stmt) (q : Cl) : Prop where
  names : Names X x q.c
  slot : match q.i, nm with
    | none, none => True
    | some i, some n => X.N[i]? = some n ∧ X.env.kindOf n = some .local
    | _, _ => False
  suite : ∀ (a : Addr) (oe : Obj) (cls : Value) (d : Option Addr) (pn : List (Addr × Obj)), Zc cls d oe → (∃ vs, oe.data = .fields vs) → PSs (X.suite a ((a, oe) :: pn)) body (q.ts a cls d)
inductive ClsOk (X : Cx) : List ExceptHandler → List Cl → Prop
  | nil : ClsOk X [] []
  | cons {x : Str} {nm : Option Str} {b₀ : Stmt} {su : List Stmt} {np p : Pos} {hs : List ExceptHandler} {q : Cl} {l : List Cl} (h : ClOk X x nm (b₀ :: su) q) (r : ClsOk X hs l) :
      ClsOk X (.ExceptHandler (some (.Name x np)) nm (b₀ :: su) p :: hs) (q :: l)

/-- the exception a in the air, caught and looked at in the state s with the heap h -/
structure Air (X : Cx) (pins : List (Addr × Obj)) (σ : St) (H : Hp) (a : Addr) (cls : Value) (d : Option Addr) (B : Heap) (sI s : Shared) (h : Heap) : Prop where
  fly : HandSPX.FlyingZ B (X.env :: X.outer) a (Zc cls d) h
  inv : Inv X pins σ H sI
  hid : ∀ b o, sI.heap.get? b = some o → b ∉ frs X.stack → B.get? b = some o
  upto : sI.heap.UpToSlots h
  new : H a = none
  sys : s.os = sI.os
  gens : AllBare s.gens
section
variable {X : Cx} {pins : List (Addr × Obj)} {σ : St} {H : Hp} {a : Addr} {cls : Value} {d : Option Addr} {B : Heap} {sI s : Shared} {h : Heap}
theorem Air.here (y : Air X pins σ H a cls d B sI s h) : Inv X pins σ H { s with heap := h } := y.inv.landed (s' := { s with heap := h }) y.hid y.fly.1 y.upto y.sys y.gens
theorem Air.obj (y : Air X pins σ H a cls d B sI s h) (hf : X.env.frame = some X.env.locals) :
    ∃ oe vs, h.get? a = some oe ∧ Zc cls d oe ∧ oe.data = .fields vs ∧ Inv (X.suite a ((a, oe) :: (X.pn ++ pins))) [] σ H { s with heap := h } := by
  obtain ⟨oe, vs, e1, e2, e3⟩ := y.fly.there
  have no : a ∉ frs (X.env :: X.outer) := fun hm => by
    obtain ⟨_, o', e', nf⟩ := y.fly.2.2.1.mem hm
    rw [e1] at e'
    cases e'
    exact nf _ e3
  refine ⟨oe, vs, e1, e2, e3, y.here.suite e1 e3 y.new (fun z => no (List.mem_filterMap.mpr ⟨X.env, List.mem_cons_self, by rw [hf, z]⟩)) fun hm => ?_⟩
  obtain ⟨e, he, q⟩ := List.mem_filterMap.mp hm
  exact no (List.mem_filterMap.mpr ⟨e, List.mem_cons_of_mem _ he, q⟩)
/-- the suite's run, seen from the try -/
theorem suite_back {pins' : List (Addr × Obj)} {D : Ends} {oe : Obj} {f : Flow} {s6 : Shared} (ok : X.Ok) (z : SP (X.suite a ((a, oe) :: (X.pn ++ pins))) pins' D f s6) : SP X pins D f s6 := by
  cases f with
  | next => obtain ⟨σ6, H6, S6, q6⟩ := z; exact ⟨σ6, H6, S6.unsuite ok, q6⟩
  | brk => obtain ⟨σ6, H6, S6, q6⟩ := z; exact ⟨σ6, H6, S6.unsuite ok, q6⟩
  | cont => obtain ⟨σ6, H6, S6, q6⟩ := z; exact ⟨σ6, H6, S6.unsuite ok, q6⟩
  | ret u => obtain ⟨v6, σ6, H6, S6, r6, q6⟩ := z; exact ⟨v6, σ6, H6, S6.unsuite ok, r6, q6⟩
/-- no clause is left -/
theorem none_left {Wout : WX} {D : Ends} (hs : X.stack = X.env :: X.outer) (hf : X.env.frame = some X.env.locals) (tk : Takes X Wout) (y : Air X pins σ H a cls d B sI s h) (w : Wout cls d σ H) :
    wpAny (model X.prog X.w) X.A (handleBy (.ref a) X.env []) (SP X pins D) X.xe { s with heap := h } := by
  refine wpAny_handleBy_nil ?_
  obtain ⟨_, _, _, oe, vs, T, oT, ts', he, _, hd, h1, _⟩ := id y.fly
  have last : wpAny (model X.prog X.w) X.A (setFlight (.ref a) X.env.frame) (fun _ s4 => wpAny (model X.prog X.w) X.A (throw (.ref a) : Sem Flow) (SP X pins D) X.xe s4) X.xe { s with heap := h } := by
    rw [hf]
    exact HandSPX.setFlight_upZ y.fly fun h4 up4 st4 => wpAny_throw (tk _ _ ⟨a, B, sI, pins, σ, H, cls, d, rfl, y.inv, y.hid, y.upto.trans st4, .inr (.inr (by rw [hs]; exact up4)), y.new, y.sys, y.gens, w⟩)
  unfold PySem.passOn; refine wpAny_bind (wpAny_field he hd h1 ?_)
  rw [if_neg (by simp : ¬ ((Value.ref T == Value.none) = true))]
  first | exact wpAny_bind (wpAny_pure (wpAny_bind last)) | exact wpAny_bind last
/-- the clauses, one after the other -/
theorem by_clauses {Wout : WX} {D : Ends} (hs : X.stack = X.env :: X.outer) (hf : X.env.frame = some X.env.locals) (hN : X.N.Nodup) (tk : Takes X Wout) (y : Air X pins σ H a cls d B sI s h) {hds : List ExceptHandler} {l : List Cl} (hk : ClsOk X hds l) (w : wCl X.K Wout D l cls d σ H) :
    wpAny (model X.prog X.w) X.A (handleBy (.ref a) X.env hds) (SP X pins D) X.xe { s with heap := h } := by
  induction hk with
  | nil => exact none_left hs hf tk y w
  | @cons x nm b₀ su np p hds2 q l2 hq r ih =>
    obtain ⟨b, hb, yes, no⟩ := w
    obtain ⟨oe, vs, e1, e2, e3, S⟩ := y.obj hf
    have LT : PySem.W.Looks (model X.prog X.w) h (typeOf (.ref a)) cls := fun A Q E s k q => wpAny_typeOf_ref (k _ _ e1) (by rw [e2.1]; exact q)
    refine wpAny_handleBy_cons (codeAny_handlers_test ?_) (by intro q; cases q)
    have asked : ∀ {Q : Value → Shared → Prop} {E : Value → Shared → Prop}, Q q.c { s with heap := h } → wpAny (model X.prog X.w) (X.A.mark (some (.ref a))) (eval (.Name x np) X.env) Q E { s with heap := h } := fun {Q E} z => by
      obtain ⟨hg, hdbg, hm | ⟨hm, hv, hnn⟩⟩ := hq.names
      · exact ld_glob S hg hm z hdbg
      · exact ld_blt S hg hm hv z hnn hdbg
    refine asked ((PySem.W.exm_one (M := model X.prog X.w) y.here.kIn LT hb).here ?_)
    cases b with
    | false => exact ih (no rfl)
    | true =>
      have slot := hq.slot
      have go := yes rfl a y.new
      have su_run := fun oe' pn => hq.suite a oe' cls d pn
      obtain ⟨c, i, ts⟩ := q
      cases i with
      | none =>
        cases nm with
        | some n => exact slot.elim
        | none =>
          refine codeAny_handlers_suite (HandSPX.lands_againZ y.fly fun h4 fl4 up4 => ?_)
          have y4 : Air X pins σ H a cls d B sI s h4 := ⟨fl4, y.inv, y.hid, y.upto.trans up4, y.new, y.sys, y.gens⟩
          obtain ⟨oe4, vs4, f1, f2, f3, S4⟩ := y4.obj hf
          exact wpAny_mono ((su_run oe4 (X.pn ++ pins) f2 ⟨_, f3⟩).run [] _ _ H _ S4 go) (fun f s6 z => suite_back y.inv.ok z) fun _ _ z => False.elim z
      | some i =>
        cases nm with
        | none => exact slot.elim
        | some n =>
          obtain ⟨hi, hln⟩ : X.N[i]? = some n ∧ X.env.kindOf n = some .local := slot
          refine codeAny_handlers_suite_as (HandSPX.lands_againZ y.fly fun h4 fl4 up4 => ?_)
          have y4 : Air X pins σ H a cls d B sI s h4 := ⟨fl4, y.inv, y.hid, y.upto.trans up4, y.new, y.sys, y.gens⟩
          obtain ⟨oe4, vs4, f1, f2, f3, S4⟩ := y4.obj hf
          refine store_ok (X := X.suite a ((a, oe4) :: (X.pn ++ pins))) (v := .ref a) S4 hN hi (.inl hln) rfl (fun s5 S5 => ?_) (.inr hln)
          refine wpAny_mono ((su_run oe4 (X.pn ++ pins) f2 ⟨_, f3⟩).run [] s5 _ H _ S5 go) (fun f s6 z => ?_) fun _ _ z => False.elim z
          have gone : ∀ {σ6 : St} {H6 : Hp} {Q : Shared → Prop}, Inv X pins σ6 H6 s6 → (∀ s7, Inv X pins (σ6.set i none) H6 s7 → Q s7) → wpAny (model X.prog X.w) X.A (do bindName X.env n .none; unbindBehindTheSuite X.env n p) (fun _ s7 => Q s7) X.xe s6 :=
            fun {σ6 H6 Q} S6 hq => gone_ok S6 hN hi hln hq
          have back := suite_back y.inv.ok z
          cases f with
          | next => obtain ⟨σ6, H6, S6, q6⟩ := back; exact gone S6 fun s7 J7 => ⟨_, _, J7, q6⟩
          | brk => obtain ⟨σ6, H6, S6, q6⟩ := back; exact gone S6 fun s7 J7 => ⟨_, _, J7, q6⟩
          | cont => obtain ⟨σ6, H6, S6, q6⟩ := back; exact gone S6 fun s7 J7 => ⟨_, _, J7, q6⟩
          | ret u => obtain ⟨v6, σ6, H6, S6, r6, q6⟩ := back; exact gone S6 fun s7 J7 => ⟨_, _, _, J7, r6, q6⟩
end
section
variable {X : Cx} {body : List Stmt} {h₀ : ExceptHandler} {hds : List ExceptHandler} {l : List Cl} {pos : Pos} {tb : WX → TS} {Wout : WX}
/-- THE RULE -/
theorem ps_try_cls (hs : X.stack = X.env :: X.outer) (hf : X.env.frame = some X.env.locals) (hN : X.N.Nodup) (tk : Takes X Wout)
    (hb : ∀ (W : WX) (pn : List (Addr × Obj)) (xe : Value → Shared → Prop), Takes (X.tr pn xe) W → PassesOwn (model X.prog X.w) X.A X.env xe → PSs (X.tr pn xe) body (tb W)) (hh : ClsOk X (h₀ :: hds) l) :
    PS X (.Try body (h₀ :: hds) [] [] pos) (fun D σ H => tb (wCl X.K Wout D l) D σ H) := by
  refine ⟨fun pins s σ H D I t => wpAny_Try_except ?_⟩
  have ok := I.ok
  have fr : X.A.frames = some (X.env :: X.outer) := by rw [ok.frames, hs]
  refine wpAny_mono ((hb (wCl X.K Wout D l) (X.pn ++ pins) (fun e s₁ => wpAny (model X.prog X.w) X.A (noteFrame e X.env) (fun _ s₂ => wpAny (model X.prog X.w) X.A (setFlight e none) (fun _ s₃ =>
    wpAny (model X.prog X.w) X.A (handleBy e X.env (h₀ :: hds)) (SP X pins D) X.xe s₃) X.xe s₂) X.xe s₁) (fun u s' up => ?_) PassesOwn.looking).run [] s σ H D (I.toTry _) t) (fun f s1 z => ?_) fun _ _ z => z
  · obtain ⟨a, B, sI, pins', σ', H', cls, d, rfl, J', nb, upto, sky, na, os, ag, w⟩ := up
    have J : Inv X pins σ' H' sI := J'.ofTry ok
    have sky' : Sky B (X.env :: X.outer) a (Zc cls d) X.env.locals s'.heap := hs ▸ sky
    exact Sky.land Zc.steady fr hf sky' fun h3 fl3 up3 => by_clauses hs hf hN tk ⟨fl3, J, nb, upto.trans up3, na, os, ag⟩ hh w
  · cases f with
    | next => obtain ⟨σ', H', J', q⟩ := z; exact wpAny_execs_nil ⟨σ', H', J'.ofTry ok, q⟩
    | brk => obtain ⟨σ', H', J', q⟩ := z; exact ⟨σ', H', J'.ofTry ok, q⟩
    | cont => obtain ⟨σ', H', J', q⟩ := z; exact ⟨σ', H', J'.ofTry ok, q⟩
    | ret u => obtain ⟨v, σ', H', J', r, q⟩ := z; exact ⟨v, σ', H', J'.ofTry ok, r, q⟩
end
end L2
namespace L2
open PySem PySem.W PySem.Calls PyProof.Rows
/-! An object is made where a try stands around it: what its `__init__` raises meets the wish of the clauses at the slots as they are then. -/
section
variable {X : Cx} {WC : CXT} {lev : Nat} {fI cl : Addr} {fdI : FuncData} {names : List Str} {spI : Sp} {dv : List V} {du : List Value} {wish : St → XK}
/-- the class called -/
theorem made_in_try {pins : List (Addr × Obj)} {σ : St} {H : Hp} {s : Shared} {Q : VK} {us : List Value} {vs : List V} (mk : Mk X.K cl fI) (ok : FnOk X.prog X.w X.K X.mg X.base WC lev fI fdI names spI) (rm : Room (lev + 1) X.A)
    (bd : Binds X.K fdI names du) (dr : Vals dv du) (ps : PassesAt WC X σ (wish σ)) (I : Inv X pins σ H s) (r : Vals vs us)
    (go : ∀ x dx, H x = none → H dx = none → dx ≠ x → spI (.ref x :: (vs ++ dv)) (upd (upd H dx (.own x)) x (.ins cl dx [])) (fun v G => v = .non ∧ Q (.ref x) G) (wish σ)) :
    wpAny (model X.prog X.w) X.A (call (.ref cl) us) (EP X pins σ Q) X.xe s := by
  have top1 : H (s.heap.objs.size + 1) = none := I.hok.fresh (Nat.le_succ _)
  have top0 : H s.heap.objs.size = none := I.hok.fresh (Nat.le_refl _)
  have z := go _ _ top1 top0 (Nat.ne_of_lt (Nat.lt_succ_self _))
  have J := Inv.made (C := cl) I
  have all : Vals (V.ref (s.heap.objs.size + 1) :: (vs ++ dv)) (Value.ref (s.heap.objs.size + 1) :: (us ++ du)) := .cons rfl (r.append dr)
  have many : (Value.ref (s.heap.objs.size + 1) :: us ++ du).length = names.length := (all.length.symm.trans (ok.len _ _ _ _ z) : _)
  have bound := bd _ (Value.ref (s.heap.objs.size + 1) :: us) J.kIn many
  have init := ok.run _ X.stack _ _ ⟨Value.ref (s.heap.objs.size + 1) :: us, []⟩ _ _ _ (wish σ) (rm.make cl us []) (J.env0.make cl us []) bound all z
  refine wpAny_call (make_map (f := fI) I.kIn mk.makes mk.init (beq_iff_eq.mp mk.fn) (codeAny_mono init fun out s' got => ?_))
  match out, got with
  | .error e, got => exact ps pins _ _ e s' J got
  | .ok (.ret u), got =>
    obtain ⟨v, G, J', rel, no, q⟩ := J.after got
    cases no
    exact ⟨rel, V.ref (s.heap.objs.size + 1), G, J', rfl, q⟩
  | .ok .next, got => exact got.elim
  | .ok .brk, got => exact got.elim
  | .ok .cont, got => exact got.elim
def tMakeS (cl : Addr) (spI : Sp) (dv : List V) (wish : St → XK) (ta : TA) : TE := fun σ H Q => ta σ H fun vs G => ∀ x dx, G x = none → G dx = none → dx ≠ x → spI (.ref x :: (vs ++ dv)) (upd (upd G dx (.own x)) x (.ins cl dx [])) (fun v G' => v = .non ∧ Q (.ref x) G') (wish σ)
variable {nm : Str} {p pos : Pos} {e : Expr} {es : List Expr} {ta : TA}
theorem pe_makeS (mk : Mk X.K cl fI) (ok : FnOk X.prog X.w X.K X.mg X.base WC lev fI fdI names spI) (rm : Room (lev + 1) X.A) (gl : Gl X nm) (at_ : X.mg nm = some (.ref cl)) (bd : Binds X.K fdI names du) (dr : Vals dv du)
    (ps : ∀ σ, PassesAt WC X σ (wish σ)) (args : PA X (e :: es) ta) (nd : (nm == ("__debug__" : Str)) = false := by decide)
    (one : starEach (e :: es) X.env = (false, eval e X.env) :: starEach es X.env := by rfl) (few : (backTo pos (starEach es X.env)).any (·.1) = false := by rfl) : PE X (.Call (.Name nm p) (e :: es) [] pos) (tMakeS cl spI dv wish ta) :=
  ⟨fun pins s σ H Q I want => wpAny_Call_Name_kw (ld_glob I gl at_
    (PySem.W.callWith_K (h₀ := X.base) I.ok.mod.kin mk.kp (thn (args.run pos pins s σ H _ I want) fun us s1 ⟨vs, G, J, rel, q⟩ => ⟨J.kIn, made_in_try mk ok rm bd dr (ps σ) J rel q⟩) one few) nd)⟩
end
end L2
namespace L2
open PySem PySem.Spec PyProof.Rows
/-- a statement and the rest of its block, joined by what holds between them -/
def tJoin (t u : TS) : TS := fun D σ H => ∃ J : St → Hp → Prop, t { D with nx := J } σ H ∧ ∀ τ G, J τ G → u D τ G
theorem pss_join {X : Cx} {st : Stmt} {rest : List Stmt} {t u : TS} (a : PS X st t) (b : PSs X rest u) : PSs X (st :: rest) (tJoin t u) :=
  ⟨fun pins s σ H D I ⟨J, hj, hu⟩ => wpAny_execs_cons (thn (a.run pins s σ H { D with nx := J } I hj) fun f s1 q => match f, q with
    | .next, ⟨τ, G, I', q'⟩ => b.run pins s1 τ G D I' (hu τ G q')
    | .ret _, q => q
    | .brk, q => q
    | .cont, q => q)⟩
end L2
namespace IdL
open PySem L2
def SameBut (b : Addr) (H H' : Hp) : Prop := ∀ a o, a ≠ b → H a = some o → H' a = some o
theorem same_new {H : Hp} {p : Addr} {o : HO} (hp : H p = none) : Same H (upd H p o) := fun c u e => by
  rw [upd_ne (ne_of_none e hp)]
  exact e
end IdL
namespace IdL
open PySem L2 TL
/-! ### the words of the lines, as plain functions -/
def isNum (z : Str) : Bool := Txt.isdigit z && (decide (z.length ≤ 30) && (decide (z = "0") || !Txt.startswith z "0"))
def numV (z : Str) : Int := (NumText.digitsVal (tl z) : Nat)
/-- a plain text: signs of ASCII alone -/
def Asc (z : Str) : Prop := ∀ c ∈ tl z, c < 128
theorem and_t {a b : Bool} (h : (a && b) = true) : a = true ∧ b = true := Bool.and_eq_true_iff.mp h
def termV (z : Str) (ns : List Str) : V := if isNum z = true then .int (numV z) else if z ∈ ns then .str z else .non
theorem dec_str (a b : Str) : decide (V.str a = V.str b) = decide (a = b) := by
  by_cases h : a = b
  · subst h
    rw [decide_eq_true rfl, decide_eq_true rfl]
  · rw [decide_eq_false h, decide_eq_false fun z => h (V.str.inj z)]
theorem in_strs (z : Str) : ∀ ns : List Str, inV (.str z) (ns.map V.str) = decide (z ∈ ns)
  | [] => rfl
  | n :: ns => by
    show (eqV (.str n) (.str z) || inV (.str z) (ns.map V.str)) = _
    rw [in_strs z ns]
    show ((n == z) || decide (z ∈ ns)) = _
    by_cases h : n = z
    · subst h
      rw [beq_self_eq_true, decide_eq_true (List.mem_cons_self ..)]; rfl
    · rw [beq_eq_false_iff_ne.mpr h, Bool.false_or]
      by_cases k : z ∈ ns
      · rw [decide_eq_true k, decide_eq_true (List.mem_cons_of_mem _ k)]
      · rw [decide_eq_false k, decide_eq_false fun y => by
          rcases List.mem_cons.mp y with e | e
          · exact h e.symm
          · exact k e]
theorem flat_strs : ∀ ns : List Str, (ns.map V.str).all flatV = true
  | [] => rfl
  | n :: ns => by rw [List.map_cons, List.all_cons, flat_strs ns]; rfl
theorem dig_asc {c : Nat} (h : c < 128) : Unicode.isDigit c = (decide (48 ≤ c) && decide (c ≤ 57)) := by
  have e := PySem.W.os_isdigit h
  simpa [Txt.isdigit, Str.length] using e
theorem isdigit_asc {z : Str} (a : Asc z) (h : Txt.isdigit z = true) : NumText.AllDigits (tl z) ∧ tl z ≠ [] := by
  unfold Txt.isdigit at h
  obtain ⟨h1, h2⟩ := and_t h
  have l := of_decide_eq_true h1
  rw [len_tl] at l
  refine ⟨fun c hc => ?_, fun e => by rw [e] at l; exact absurd l (by decide)⟩
  rw [Array.all_eq_true'] at h2
  have := h2 c (Array.mem_toList_iff.mp hc)
  rw [dig_asc (a c hc), Bool.and_eq_true, decide_eq_true_eq, decide_eq_true_eq] at this
  exact this
theorem num_int {z : Str} (a : Asc z) (h : isNum z = true) : intText? z = some (numV z) ∧ z.length ≤ 640 := by
  obtain ⟨h1, h2⟩ := and_t h
  obtain ⟨h2, h3⟩ := and_t h2
  obtain ⟨d, ne⟩ := isdigit_asc a h1
  have l := of_decide_eq_true h2
  exact ⟨intText_digits d ne (by omega), by omega⟩
structure Glo (mg : Str → Option Value) : Prop where
  len : mg "len" = none
  int : mg "int" = none
  fig : ∃ t, mg "MOST_FIGURES" = some (.int 30 t)
  trm : ∃ t, mg "MOST_TERMS" = some (.int 4 t)
  prt : ∃ t, mg "MOST_PARTS" = some (.int 4 t)
  enum : mg "enumerate" = none
  tuple : mg "tuple" = none
abbrev sNum : Stmt := top 33
theorem scNum : FnScope ["word"] ["word"] (defScope sNum) := ⟨rfl, rfl, rfl, by decide +kernel, rfl, by decide +kernel, by decide +kernel⟩
def spNum : Sp := fun vs H Q _ => ∃ z : Str, vs = [.str z] ∧ z.length ≤ sizeLine ∧ Q (.bl (isNum z)) H
section
variable {P : Program} {w : World} {K : PySem.W.Frag} {mg : Str → Option Value} {base : Heap}
theorem ok_num {f : Addr} {fd : FuncData} (F : Fun K "is_number" "is_number" sNum f fd) (T : Glo mg) : FnOk P w K mg base CX0 1 f fd ["word"] spNum := by
  obtain ⟨t, tF⟩ := T.fig
  refine F.ok scNum (fun vs H Q E h => ?_) (fun cdv A outer s H vs Q E hr h => ?_)
  · obtain ⟨z, rfl, _⟩ := h
    rfl
  · obtain ⟨z, rfl, hz, k⟩ := h
    refine ⟨_, pss_cons (ps_if (PW.pt (pw_or (pt_not (pt_val (pe_m0 PySem.F.slot_str_isdigit PySem.F.type_str_isdigit mt_isdigit (pv 0)))) (pw_or1 (pt_cmpR op_gt (pe_callB call_len_str (by rfl) T.len PySem.boot_len (pa_cons (pv 0) pa_nil)) (pe_glob rfl tF (v := .int 30) ⟨_, rfl⟩) (nomark _))))) (pss_one (ps_ret pe_bl)) pss_nil)
      (pss_one (ps_ret (pe_or (pe_cmpR op_eq (pv 0) pe_str (nomark _)) (pe_one (pe_not (pe_m1 PySem.F.slot_str_startswith PySem.F.type_str_startswith mt_startswith (pv 0) pe_str)))))), ?_⟩
    refine ⟨_, rfl, ⟨_, rfl⟩, z, rfl, rfl, trivial, _, rfl, ?_⟩
    have hk : ∀ b, isNum z = b → Q (.bl b) H := fun b e => e ▸ k
    unfold isNum at hk
    cases e1 : Txt.isdigit z
    · refine iteT (iteT ?_)
      exact hk false (by rw [e1]; rfl)
    · refine iteF ?_
      refine ⟨_, rfl, z, rfl, hz, _, _, rfl, rfl, _, rfl, ?_⟩
      refine ite2 (fun g => ?_) (fun g => ?_)
      · have g' : (30 : Int) < z.length := of_decide_eq_true g
        exact hk false (by rw [e1, decide_eq_false (show ¬ z.length ≤ 30 by omega)]; rfl)
      · have g' : ¬ (30 : Int) < z.length := fun y => g (decide_eq_true y)
        refine ⟨_, rfl, rfl, _, rfl, ?_⟩
        rw [e1, decide_eq_true (show z.length ≤ 30 by omega)] at hk
        refine ite2 (fun g0 => ?_) (fun g0 => ?_)
        · rw [dec_str] at g0
          exact hk true (by rw [g0]; rfl)
        · rw [dec_str] at g0
          rw [Bool.eq_false_iff.mpr g0] at hk
          exact ⟨_, rfl, ⟨_, rfl⟩, z, _, rfl, rfl, _, rfl, hk _ rfl⟩
abbrev sTerm : Stmt := top 34
theorem scTerm : FnScope ["word", "names"] ["word", "names"] (defScope sTerm) := ⟨rfl, rfl, rfl, by decide +kernel, rfl, by decide +kernel, by decide +kernel⟩
def spTerm (K : PySem.W.Frag) : Sp := fun vs H Q _ => ∃ (z : Str) (p : Addr) (ns : List Str), vs = [.str z, .ref p] ∧ z.length ≤ sizeLine ∧ Asc z ∧ SqT K H p (ns.map V.str) ∧ Q (termV z ns) H
structure FNum (K : PySem.W.Frag) (mg : Str → Option Value) (f : Addr) (d : FuncData) : Prop where
  u : Fun K "is_number" "is_number" sNum f d
  b : Binds K d ["word"] []
  g : mg "is_number" = some (.ref f)
theorem ok_term {f fN : Addr} {fd dN : FuncData} (F : Fun K "read_term" "read_term" sTerm f fd) (N : FNum K mg fN dN) (T : Glo mg) : FnOk P w K mg base CX0 2 f fd ["word", "names"] (spTerm K) := by
  have ON : FnOk P w K mg base CX0 1 fN dN ["word"] spNum := ok_num N.u T
  refine F.ok scTerm (fun vs H Q E h => ?_) (fun cdv A outer s H vs Q E hr h => ?_)
  · obtain ⟨z, p, ns, rfl, _⟩ := h
    rfl
  · obtain ⟨z, p, ns, rfl, hz, az, hS, k⟩ := h
    refine ⟨_, pss_cons (ps_if (pt_val (pe_call ON hr rfl N.g N.u.kp N.b .nil pass0 (pa_cons (pv 0) pa_nil))) (pss_one (ps_ret (pe_callTy call_int_str (by rfl) T.int (by decide +kernel) (pa_cons (pv 0) pa_nil)))) pss_nil)
      (pss_cons (ps_if (pt_cmpR op_in_seq (pv 0) (pv 1) (by rfl)) (pss_one (ps_ret (pv 0))) pss_nil)
      (pss_one (ps_ret pe_non))), ?_⟩
    unfold termV at k
    refine ⟨_, rfl, z, rfl, hz, _, rfl, ?_⟩
    refine ite2 (fun g => ?_) (fun g => ?_)
    · rw [if_pos g] at k
      obtain ⟨h1, h2⟩ := num_int az g
      exact ⟨_, rfl, z, _, rfl, h1, h2, k⟩
    · rw [if_neg g] at k
      refine ⟨_, rfl, _, rfl, p, _, rfl, .inr hS, rfl, flat_strs ns, _, rfl, ?_⟩
      rw [in_strs]
      refine ite2 (fun g0 => ?_) (fun g0 => ?_)
      · rw [if_pos (of_decide_eq_true g0)] at k
        exact ⟨_, rfl, k⟩
      · rw [if_neg fun y => g0 (decide_eq_true y)] at k
        exact k
end
end IdL
namespace IdL
open PySem L2 TL
/-! ### what stands as data of tuples alone -/
mutual
inductive TD (K : PySem.W.Frag) (H : Hp) : V → PyData → Prop
  | non : TD K H .non .none
  | bl (b : Bool) : TD K H (.bl b) (.bool b)
  | int (i : Int) : TD K H (.int i) (.int i)
  | str (x : Str) : TD K H (.str x) (.str x)
  | tup {a : Addr} {xs : List V} {ds : List PyData} : SqT K H a xs → TDs K H xs ds → TD K H (.ref a) (.tuple ds)
inductive TDs (K : PySem.W.Frag) (H : Hp) : List V → List PyData → Prop
  | nil : TDs K H [] []
  | cons {v : V} {vs : List V} {d : PyData} {ds : List PyData} : TD K H v d → TDs K H vs ds → TDs K H (v :: vs) (d :: ds)
end
/-- the tuples that stood stand -/
def KeepT (H H' : Hp) : Prop := ∀ a xs, Rd H a (.tup xs) → Rd H' a (.tup xs)
theorem KeepT.refl (H : Hp) : KeepT H H := fun _ _ h => h
theorem KeepT.trans {H H1 H2 : Hp} (a : KeepT H H1) (b : KeepT H1 H2) : KeepT H H2 := fun p xs h => b p xs (a p xs h)
theorem KeepT.of {H H' : Hp} (s : Same H H') : KeepT H H' := fun a xs h => match h with
  | .inl e => .inl (s _ _ e)
  | .inr ⟨o, e⟩ => .inr ⟨o, s _ _ e⟩
theorem KeepT.lst {H : Hp} {p : Addr} {zs : List V} {o : HO} (e : H p = some (.lst zs)) : KeepT H (upd H p o) := fun a xs h => by
  have ne : a ≠ p := fun z => by
    subst z
    rcases h with h | ⟨o, h⟩ <;> rw [e] at h <;> cases h
  rcases h with h | ⟨o, h⟩
  · exact .inl (by rw [upd_ne ne]; exact h)
  · exact .inr ⟨o, by rw [upd_ne ne]; exact h⟩
theorem KeepT.dic {H : Hp} {p : Addr} {zs : List (Key × V)} {o : HO} (e : H p = some (.dK zs)) : KeepT H (upd H p o) := fun a xs h => by
  have ne : a ≠ p := fun z => by
    subst z
    rcases h with h | ⟨o, h⟩ <;> rw [e] at h <;> cases h
  rcases h with h | ⟨o, h⟩
  · exact .inl (by rw [upd_ne ne]; exact h)
  · exact .inr ⟨o, by rw [upd_ne ne]; exact h⟩
theorem KeepT.seq {K : PySem.W.Frag} {H H' : Hp} (k : KeepT H H') {a : Addr} {xs : List V} (h : SqT K H a xs) : SqT K H' a xs := h.imp (k a xs) id
theorem Same.tup {K : PySem.W.Frag} {H H' : Hp} (s : Same H H') {a : Addr} {xs : List V} (h : SqT K H a xs) : SqT K H' a xs := (KeepT.of s).seq h
mutual
theorem TD.keep {K : PySem.W.Frag} {H H' : Hp} (k : KeepT H H') : ∀ {v : V} {d : PyData}, TD K H v d → TD K H' v d
  | _, _, .non => .non
  | _, _, .bl b => .bl b
  | _, _, .int i => .int i
  | _, _, .str x => .str x
  | _, _, .tup h t => .tup (k.seq h) (TDs.keep k t)
theorem TDs.keep {K : PySem.W.Frag} {H H' : Hp} (k : KeepT H H') : ∀ {vs : List V} {ds : List PyData}, TDs K H vs ds → TDs K H' vs ds
  | _, _, .nil => .nil
  | _, _, .cons h t => .cons (TD.keep k h) (TDs.keep k t)
end
mutual
theorem TD.dp {K : PySem.W.Frag} {H : Hp} : ∀ {v : V} {d : PyData}, TD K H v d → Dp K H v d
  | _, _, .non => .non
  | _, _, .bl b => .bl b
  | _, _, .int i => .int i
  | _, _, .str x => .str x
  | _, _, .tup h t => .tup h (TDs.dp t)
theorem TDs.dp {K : PySem.W.Frag} {H : Hp} : ∀ {vs : List V} {ds : List PyData}, TDs K H vs ds → DpAll K H vs ds
  | _, _, .nil => .nil
  | _, _, .cons h t => .cons (TD.dp h) (TDs.dp t)
end
theorem TDs.snoc {K : PySem.W.Frag} {H : Hp} {v : V} {d : PyData} (h : TD K H v d) : ∀ {vs : List V} {ds : List PyData}, TDs K H vs ds → TDs K H (vs ++ [v]) (ds ++ [d])
  | _, _, .nil => .cons h .nil
  | _, _, .cons a t => .cons a (TDs.snoc h t)
theorem TDs.len {K : PySem.W.Frag} {H : Hp} : ∀ {vs : List V} {ds : List PyData}, TDs K H vs ds → vs.length = ds.length
  | _, _, .nil => rfl
  | _, _, .cons _ t => by rw [List.length_cons, List.length_cons, TDs.len t]
theorem dec_i (a b : Int) : decide (V.int a = V.int b) = decide (a = b) := by
  by_cases h : a = b
  · subst h
    rw [decide_eq_true rfl, decide_eq_true rfl]
  · rw [decide_eq_false h, decide_eq_false fun z => h (V.int.inj z)]
theorem iteNN {c A B : Prop} [Decidable c] (hc : ¬ c) (h : A) : if (!decide c) = true then A else B := by
  rw [decide_eq_false hc]
  exact iteT h
theorem iteY {c A B : Prop} [Decidable c] (hc : c) (h : A) : if decide c = true then A else B := by
  rw [decide_eq_true hc]
  exact iteT h
theorem iteN {c A B : Prop} [Decidable c] (hc : ¬ c) (h : B) : if decide c = true then A else B := by
  rw [decide_eq_false hc]
  exact iteF h
/-- both ways lead to what follows, the one by a detour -/
theorem ite_k {c A B : Prop} [Decidable c] (n : B) (h : c → B → A) : if c then A else B := by
  by_cases e : c
  · rw [if_pos e]; exact h e n
  · rw [if_neg e]; exact n
theorem strN {a b : Str} (h : a ≠ b) : ¬ V.str a = V.str b := fun z => h (V.str.inj z)
theorem dt {p : Prop} [Decidable p] (h : decide p = true) : p := of_decide_eq_true h
theorem df {p : Prop} [Decidable p] (h : ¬ decide p = true) : ¬ p := fun z => h (decide_eq_true z)
theorem put_len (kvs : List (Key × V)) (k : Key) (v : V) : (putK kvs k v).length ≤ kvs.length + 1 := by
  unfold putK
  split
  · rw [List.length_map]; omega
  · rw [List.length_append]; exact Nat.le_refl _
/-! ### a sum of terms -/
def termD (z : Str) (ns : List Str) : PyData := if isNum z = true then .int (numV z) else if z ∈ ns then .str z else .none
theorem term_td {K : PySem.W.Frag} {H : Hp} (z : Str) (ns : List Str) : TD K H (termV z ns) (termD z ns) := by
  unfold termV termD
  by_cases h : isNum z = true
  · rw [if_pos h, if_pos h]; exact .int _
  · rw [if_neg h, if_neg h]
    by_cases k : z ∈ ns
    · rw [if_pos k, if_pos k]; exact .str _
    · rw [if_neg k, if_neg k]; exact .non
theorem term_non {z : Str} {ns : List Str} : termV z ns = .non ↔ termD z ns = .none := by
  unfold termV termD
  by_cases h : isNum z = true
  · rw [if_pos h, if_pos h]; exact ⟨(fun y => nomatch y), (fun y => nomatch y)⟩
  · rw [if_neg h, if_neg h]
    by_cases k : z ∈ ns
    · rw [if_pos k, if_pos k]; exact ⟨(fun y => nomatch y), (fun y => nomatch y)⟩
    · rw [if_neg k, if_neg k]; exact ⟨fun _ => rfl, fun _ => rfl⟩
def mSum (ns : List Str) : List Str → Nat → List PyData → List (Key × V) → Int → Option (List PyData)
  | [], _, acc, _, _ => some acc
  | w :: ws, i, acc, met, sg =>
    if i % 2 = 1 then (if w ≠ "+" ∧ w ≠ "-" then none else mSum ns ws (i + 1) acc met (if w = "+" then 1 else -1))
    else if termV w ns = .non ∨ (w ∈ ns ∧ (valV met (.inr w)).isSome = true) then none
    else mSum ns ws (i + 1) (acc ++ [.tuple [.int sg, termD w ns]]) (putK met (.inr w) (.bl true)) sg
theorem mSum_cons (ns : List Str) (w : Str) (ws : List Str) (i : Nat) (acc : List PyData) (met : List (Key × V)) (sg : Int) : mSum ns (w :: ws) i acc met sg = if i % 2 = 1 then (if w ≠ "+" ∧ w ≠ "-" then none else mSum ns ws (i + 1) acc met (if w = "+" then 1 else -1))
    else if termV w ns = .non ∨ (w ∈ ns ∧ (valV met (.inr w)).isSome = true) then none
    else mSum ns ws (i + 1) (acc ++ [.tuple [.int sg, termD w ns]]) (putK met (.inr w) (.bl true)) sg := rfl
def sumD (ws ns : List Str) : PyData := if ws.length % 2 = 0 ∨ 7 < ws.length then .none else match mSum ns ws 0 [] [] 1 with
  | some l => .tuple l
  | none => .none
abbrev sSum : Stmt := top 35
theorem scSum : FnScope ["words", "names", "terms", "met", "sign", "at", "word", "term"] ["words", "names"] (defScope sSum) := ⟨rfl, rfl, rfl, by decide +kernel, rfl, by decide +kernel, by decide +kernel⟩
/-- words that are read: plain, not too many signs -/
structure Plain (ws : List Str) : Prop where
  asc : ∀ z ∈ ws, Asc z
  tot : (ws.map (·.length)).sum + ws.length ≤ 1000000
theorem le_sum : ∀ {l : List Nat} {n : Nat}, n ∈ l → n ≤ l.sum
  | m :: l, n, h => by
    rw [List.sum_cons]
    rcases List.mem_cons.mp h with e | e
    · omega
    · have := le_sum e; omega
theorem Plain.len {ws : List Str} (p : Plain ws) : ∀ z ∈ ws, z.length ≤ sizeLine := fun z h => by
  have := le_sum (List.mem_map_of_mem (f := (·.length)) h)
  have := p.tot
  rw [sizeLine_eq]; omega
theorem Plain.few {ws : List Str} (p : Plain ws) : ws.length ≤ 1000000 := by have := p.tot; omega
theorem Plain.drop {ws : List Str} (p : Plain ws) (k : Nat) : Plain (ws.drop k) := ⟨fun z h => p.asc z (List.mem_of_mem_drop h), by
  have h := p.tot
  rw [← List.take_append_drop k ws, List.map_append, List.sum_append, List.length_append] at h
  omega⟩
theorem Plain.take {ws : List Str} (p : Plain ws) (k : Nat) : Plain (ws.take k) := ⟨fun z h => p.asc z (List.mem_of_mem_take h), by
  have h := p.tot
  rw [← List.take_append_drop k ws, List.map_append, List.sum_append, List.length_append] at h
  omega⟩
def spSum (K : PySem.W.Frag) : Sp := fun vs H Q _ => ∃ (wl pn : Addr) (ws ns : List Str), vs = [.ref wl, .ref pn] ∧ SqL K H wl (ws.map V.str) ∧ SqT K H pn (ns.map V.str) ∧ Plain ws ∧
  ∀ v H', Same H H' → TD K H' v (sumD ws ns) → Q v H'
structure FTerm (K : PySem.W.Frag) (mg : Str → Option Value) (f : Addr) (d : FuncData) : Prop where
  u : Fun K "read_term" "read_term" sTerm f d
  b : Binds K d ["word", "names"] []
  g : mg "read_term" = some (.ref f)
section
variable {P : Program} {w : World} {K : PySem.W.Frag} {mg : Str → Option Value} {base : Heap}
theorem ok_sum {f fN fT : Addr} {fd dN dT : FuncData} (F : Fun K "read_sum" "read_sum" sSum f fd) (N : FNum K mg fN dN) (M : FTerm K mg fT dT) (T : Glo mg) : FnOk P w K mg base CX0 3 f fd ["words", "names"] (spSum K) := by
  have OT : FnOk P w K mg base CX0 2 fT dT ["word", "names"] (spTerm K) := ok_term M.u N T
  obtain ⟨tk, tT⟩ := T.trm
  refine F.ok scSum (fun vs H Q E h => ?_) (fun cdv A outer s H vs Q E hr h => ?_)
  · obtain ⟨wl, pn, ws, ns, rfl, _⟩ := h
    rfl
  · obtain ⟨wl, pn, ws, ns, rfl, hw, hn, pl, k⟩ := h
    have hu := hu_of hr
    refine ⟨_, pss_cons (ps_if (PW.pt (pw_or (pt_cmpR op_eq (pe_op op_mod (pe_callB call_len_seq (by rfl) T.len PySem.boot_len (pa_cons (pv 0) pa_nil)) pe_int) pe_int (nomark _)) (pw_or1 (pt_cmpR op_gt (pe_callB call_len_seq (by rfl) T.len PySem.boot_len (pa_cons (pv 0) pa_nil)) (pe_op op_sub (pe_op op_mul pe_int (pe_glob rfl tT (v := .int 4) ⟨_, rfl⟩)) pe_int) (nomark _))))) (pss_one (ps_ret pe_non)) pss_nil)
      (pss_cons (ps_set (i := 2) scSum.nd rfl (.inl rfl) (pe_lst pa_nil))
      (pss_cons (ps_set (i := 3) scSum.nd rfl (.inl rfl) pe_dnewK)
      (pss_cons (ps_set (i := 4) scSum.nd rfl (.inl rfl) pe_int)
      (pss_cons (ps_for PassesOwn.never rfl (pi_enum (by rfl) T.enum (pa_cons (pv 0) pa_nil)) (pg_tup rfl (pgs_cons (pg_name (i := 5) scSum.nd rfl (.inl rfl)) (pgs_cons (pg_name (i := 6) scSum.nd rfl (.inl rfl)) pgs_nil)))
        (pss_cons (ps_if (pt_cmpR op_eq (pe_op op_mod (pv 5) pe_int) pe_int (nomark _))
          (pss_cons (ps_if (PW.pt (pw_and (pt_cmpR op_ne (pv 6) pe_str (nomark _)) (pw_and1 (pt_cmpR op_ne (pv 6) pe_str (nomark _))))) (pss_one (ps_ret pe_non)) pss_nil)
          (pss_cons (ps_set (i := 4) scSum.nd rfl (.inl rfl) (pe_ifExp (pt_cmpR op_eq (pv 6) pe_str (nomark _)) pe_int (pe_un un_neg pe_int)))
          (pss_one ps_continue))) pss_nil)
        (pss_cons (ps_set (i := 7) scSum.nd rfl (.inl rfl) (pe_call OT hr rfl M.g M.u.kp M.b .nil pass0 (pa_cons (pv 6) (pa_cons (pv 1) pa_nil))))
        (pss_cons (ps_if (PW.pt (pw_or (pt_cmpR op_isN (pv 7) pe_non (nomark _)) (pw_or1 (PW.pt (pw_and (pt_cmpR op_in_seq (pv 6) (pv 1) (by rfl)) (pw_and1 (pt_cmp (pc_din hu (pv 6) (pv 3))))))))) (pss_one (ps_ret pe_non)) pss_nil)
        (pss_cons (ps_dput hu (pv 3) (pv 6) pe_bl rfl)
        (pss_one (ps_expr (pe_bm PySem.F.plainAttrs_list PySem.F.slot_list_append PySem.F.type_list_append mt_append (pv 2) (pa_cons (pe_tup (pa_cons (pv 4) (pa_cons (pv 7) pa_nil))) pa_nil)))))))))
      (pss_one (ps_ret (pe_callTy call_tuple_of (by rfl) T.tuple (by decide +kernel) (pa_cons (pv 2) pa_nil)))))))), ?_⟩
    refine ⟨_, rfl, wl, _, rfl, .inl hw, _, _, rfl, rfl, (by show (0 : Int) < 2; decide), rfl, _, rfl, ?_⟩
    rw [dec_i, List.length_map]
    have none_ok : sumD ws ns = .none → Q .non H := fun e => k _ _ (Same.refl H) (by rw [e]; exact .non)
    refine ite2 (fun g => ?_) (fun g => ?_)
    · refine iteT (none_ok ?_)
      have := dt g
      unfold sumD
      rw [if_pos (.inl (by omega))]
    have g1 := df g
    refine ⟨_, rfl, wl, _, rfl, .inl hw, _, _, rfl, rfl, .inl ⟨by decide, by decide⟩, _, _, rfl, rfl, _, _, rfl, rfl, _, rfl, ?_⟩
    rw [List.length_map]
    refine ite2 (fun g => ?_) (fun g => ?_)
    · have := dt g
      refine none_ok ?_
      unfold sumD
      rw [if_pos (.inr (by omega))]
    have g2 := df g
    have hlen : ws.length ≤ 7 := by omega
    refine ⟨Nat.zero_le _, fun tl0 htl => ?_⟩
    have s1 : Same H _ := same_new (o := .lst []) htl
    have htl1 : upd H tl0 (.lst []) tl0 = some (.lst []) := upd_same
    generalize upd H tl0 (.lst []) = H1 at *
    intro md hmd
    have ntm : tl0 ≠ md := fun z => by rw [z, hmd] at htl1; cases htl1
    have s2 : Same H1 _ := same_new (o := .dK []) hmd
    have hmd2 : upd H1 md (.dK []) md = some (.dK []) := upd_same
    have htl2 : upd H1 md (.dK []) tl0 = some (.lst []) := s2 _ _ htl1
    generalize upd H1 md (.dK []) = H2 at *
    have hmd0 : H md = none := s1.free hmd
    refine ⟨_, rfl, wl, _, rfl, (s1.trans s2).seq hw, for_it walk_enum (fun i σ H3 => ∃ (acc : List V) (ds : List PyData) (met : List (Key × V)) (sg : Int) (v5 v6 v7 : Option V), σ = [some (.ref wl), some (.ref pn), some (.ref tl0), some (.ref md), some (.int sg), v5, v6, v7] ∧ Same H H3 ∧ H3 tl0 = some (.lst acc) ∧ H3 md = some (.dK met) ∧
      TDs K H3 acc ds ∧ acc.length ≤ i ∧ met.length ≤ i ∧ mSum ns ws 0 [] [] 1 = mSum ns (ws.drop i) i ds met sg) ⟨[], [], [], 1, none, none, none, rfl, s1.trans s2, htl2, hmd2, .nil, Nat.le_refl _, Nat.le_refl _, rfl⟩ (fun i σ H3 _ ⟨_, _, _, _, _, _, _, _, s3, _⟩ => s3.seq hw) ?_ ?_⟩
    · rintro i x σ H3 H4 hi ⟨acc, ds, met, sg, v5, v6, v7, rfl, s3, hl3, hm3, td, la, lm, em⟩ ⟨T0, xi, yi, rfl, hT, rfl, e1, e2⟩
      have s4 : Same H3 _ := same_new (o := .tup [xi, yi]) hT
      have hT4 : upd H3 T0 (.tup [xi, yi]) T0 = some (.tup [xi, yi]) := upd_same
      generalize upd H3 T0 (.tup [xi, yi]) = H4 at *
      refine ⟨T0, _, rfl, SqT.of hT4, rfl, _, _, rfl, _, _, rfl, rfl, ?_⟩
      cases e1
      rw [List.length_map] at hi
      obtain ⟨z, hz⟩ : ∃ z, ws[i]? = some z := ⟨ws[i], List.getElem?_eq_getElem hi⟩
      have e2 : (ws.map V.str)[i]? = some yi := e2
      rw [List.getElem?_map, hz] at e2
      cases e2
      have s04 := s3.trans s4
      have zm : z ∈ ws := List.mem_of_getElem? hz
      have stop : mSum ns ws 0 [] [] 1 = none → ∀ H', Same H H' → Q .non H' := fun e H' s' => k _ _ s' (by
        have : sumD ws ns = .none := by
          unfold sumD
          rw [if_neg (by omega), e]
        rw [this]; exact .non)
      rw [show ws.drop i = z :: ws.drop (i + 1) from by
        obtain ⟨h1, h2⟩ := List.getElem?_eq_some_iff.mp hz
        rw [← h2]; exact List.drop_eq_getElem_cons h1, mSum_cons] at em
      refine ⟨_, rfl, _, _, rfl, rfl, (by show (0 : Int) < 2; decide), rfl, _, rfl, ?_⟩
      rw [dec_i]
      refine ite2 (fun g => ?_) (fun g => ?_)
      · rw [if_pos (show i % 2 = 1 by have := dt g; omega)] at em
        refine ⟨_, rfl, rfl, _, rfl, ?_⟩
        by_cases hp : z = "+"
        · subst hp
          rw [if_neg (fun y => y.1 rfl), if_pos rfl] at em
          refine iteNS rfl (iteF ?_)
          refine ⟨_, rfl, rfl, _, rfl, iteY rfl ?_⟩
          exact ⟨acc, ds, met, 1, _, _, _, rfl, s04, s4 _ _ hl3, s4 _ _ hm3, td.keep (KeepT.of s4), by omega, by omega, em⟩
        · refine iteNN (strN hp) ⟨_, rfl, rfl, _, rfl, ?_⟩
          by_cases hm : z = "-"
          · subst hm
            rw [if_neg (fun y => y.2 rfl), if_neg hp] at em
            refine iteNS rfl ?_
            refine ⟨_, rfl, rfl, _, rfl, iteN (strN hp) ?_⟩
            exact ⟨_, rfl, acc, ds, met, -1, _, _, _, rfl, s04, s4 _ _ hl3, s4 _ _ hm3, td.keep (KeepT.of s4), by omega, by omega, em⟩
          · rw [if_pos ⟨hp, hm⟩] at em
            exact iteNN (strN hm) (stop em _ s04)
      · rw [if_neg (show ¬ i % 2 = 1 by have := df g; omega)] at em
        refine ⟨_, rfl, _, rfl, z, pn, ns, rfl, pl.len z zm, pl.asc z zm, Same.tup s04 hn, ?_⟩
        refine ⟨_, rfl, rfl, _, rfl, ?_⟩
        have hm4 := s4 _ _ hm3
        by_cases h0 : termV z ns = .non
        · rw [if_pos (.inl h0)] at em
          exact iteY h0 (iteT (stop em _ s04))
        refine iteN h0 ?_
        refine ⟨_, rfl, _, rfl, pn, _, rfl, .inr (Same.tup s04 hn), rfl, flat_strs ns, _, rfl, ?_⟩
        rw [in_strs]
        by_cases hb : z ∈ ns ∧ (valV met (.inr z)).isSome = true
        · rw [if_pos (.inr hb)] at em
          refine iteY hb.1 ⟨_, rfl, _, rfl, md, _, rfl, DGet.k (k := Sum.inr z) hm4, _, rfl, ?_⟩
          rw [hb.2]
          exact iteT (stop em _ s04)
        rw [if_neg (fun y => y.elim h0 hb)] at em
        refine ite_k ?_ (fun g nx => ⟨_, rfl, _, rfl, md, _, rfl, DGet.k (k := Sum.inr z) hm4, _, rfl, ite2 (fun g2 => absurd ⟨dt g, g2⟩ hb) (fun _ => nx)⟩)
        refine ⟨_, rfl, _, rfl, md, _, rfl, DPut.k (k := Sum.inr z) (v := .bl true) hm4 (by rw [sizeLine_eq]; omega), ?_⟩
        have m5 : upd H4 md (.dK (putK met (.inr z) (.bl true))) md = some (.dK (putK met (.inr z) (.bl true))) := upd_same
        have l5 : upd H4 md (.dK (putK met (.inr z) (.bl true))) tl0 = some (.lst acc) := by rw [upd_ne ntm]; exact s4 _ _ hl3
        have k5 : KeepT H4 (upd H4 md (.dK (putK met (.inr z) (.bl true)))) := KeepT.dic hm4
        have s5 : Same H (upd H4 md (.dK (putK met (.inr z) (.bl true)))) := fun b o e => by
          rw [upd_ne (fun y => by rw [y, hmd0] at e; cases e)]
          exact s04 _ _ e
        have lp := put_len met (.inr z) (.bl true)
        generalize upd H4 md (.dK (putK met (.inr z) (.bl true))) = H5 at *
        refine ⟨_, rfl, .inl ⟨rfl, _, SqL.of l5⟩, _, rfl, _, rfl, (by show 2 ≤ sizeLine; decide), fun T1 hT1 => ?_⟩
        have s6 : Same H5 _ := same_new (o := .tup [.int sg, termV z ns]) hT1
        have t6 : upd H5 T1 (.tup [.int sg, termV z ns]) T1 = some (.tup [.int sg, termV z ns]) := upd_same
        generalize upd H5 T1 (.tup [.int sg, termV z ns]) = H6 at *
        have l6 := s6 _ _ l5
        refine ⟨tl0, _, _, rfl, rfl, l6, (by rw [sizeLine_eq]; omega), ?_⟩
        have k7 : KeepT H6 (upd H6 tl0 (.lst (acc ++ [.ref T1]))) := KeepT.lst l6
        refine ⟨acc ++ [.ref T1], ds ++ [.tuple [.int sg, termD z ns]], _, sg, _, _, _, rfl, fun b o e => ?_, upd_same, ?_, ?_, ?_, ?_, em⟩
        · rw [upd_ne (fun y => by rw [y, htl] at e; cases e)]
          exact s6 _ _ (s5 _ _ e)
        · rw [upd_ne ntm.symm]
          exact s6 _ _ m5
        · exact TDs.snoc (.tup (k7.seq (SqT.of t6)) (.cons (.int _) (.cons (term_td z ns) .nil))) (td.keep (((KeepT.of s4).trans k5).trans ((KeepT.of s6).trans k7)))
        · rw [List.length_append]; show acc.length + 1 ≤ _; omega
        · omega
    · rintro σ H3 ⟨acc, ds, met, sg, v5, v6, v7, rfl, s3, hl3, hm3, td, la, lm, em⟩
      rw [List.length_map, List.drop_length] at em
      refine ⟨_, rfl, tl0, acc, rfl, .inl ⟨SqL.of hl3, fun t ht => ?_⟩⟩
      have s4 : Same H3 _ := same_new (o := .tup acc) ht
      refine k _ _ (s3.trans s4) ?_
      unfold sumD
      rw [if_neg (by omega), em]
      exact .tup (SqT.of upd_same) (td.keep (KeepT.of s4))
end
end IdL
namespace IdL
open PySem L2 TL
theorem cut_to (l : List V) (k : Nat) : cutV l none (some (k : Int)) = l.take k := by
  unfold cutV
  rw [HT.sIx_none, HT.sIx_nat, List.drop_zero, Nat.sub_zero]
  by_cases h : k ≤ l.length
  · rw [Nat.min_eq_left h]
  · rw [Nat.min_eq_right (by omega), List.take_length, List.take_of_length_le (by omega)]
theorem cut_from (l : List V) (k : Nat) : cutV l (some (k : Int)) none = l.drop k := by
  unfold cutV
  rw [HT.sIx_none, HT.sIx_nat]
  by_cases h : k ≤ l.length
  · rw [Nat.min_eq_left h]
    exact List.take_of_length_le (by rw [List.length_drop]; omega)
  · rw [Nat.min_eq_right (by omega), List.drop_length, List.drop_of_length_le (by omega), List.take_nil]
theorem cut_but (l : List V) (k : Nat) (h : 0 < k) (hk : k ≤ l.length) : cutV l none (some (-(k : Int))) = l.take (l.length - k) := by
  unfold cutV
  rw [HT.sIx_none]
  have e : HT.sIx l.length l.length (some (-(k : Int))) = l.length - k := by
    show (if (-(k : Int)) < 0 then (-(k : Int) + (l.length : Int)).toNat else _) = _
    rw [if_pos (by omega)]
    omega
  rw [e, List.drop_zero, Nat.sub_zero]
theorem Asc.ok {z : Str} (a : Asc z) : PyData.strOk z = true := by
  unfold PyData.strOk
  rw [Array.all_eq_true']
  intro c hc
  exact decide_eq_true (Nat.lt_trans (a c (Array.mem_toList_iff.mpr hc)) (by decide))
/-- texts in a row as data -/
theorem strs_dp {K : PySem.W.Frag} {H : Hp} : ∀ ws : List Str, DpAll K H (ws.map V.str) (ws.map PyData.str)
  | [] => .nil
  | w :: ws => .cons (.str w) (strs_dp ws)
theorem strs_lay : ∀ ws : List Str, (∀ z ∈ ws, PyData.strOk z = true) → PyData.canLayAll0 (ws.map PyData.str) = true
  | [], _ => rfl
  | w :: ws, h => by
    rw [List.map_cons]
    show (PyData.canLay0 (.str w) && _) = true
    rw [strs_lay ws fun z hz => h z (List.mem_cons_of_mem _ hz), Bool.and_true]
    exact h w (List.mem_cons_self ..)
theorem strs_dep : ∀ ws : List Str, PyData.depthAll (ws.map PyData.str) ≤ 1
  | [] => by simp [PyData.depthAll]
  | w :: ws => by
    have := strs_dep ws
    simp only [List.map_cons, PyData.depthAll, PyData.depth]
    omega
theorem strs_shaped {ws : List Str} (h : ∀ z ∈ ws, PyData.strOk z = true) : SeqAt.shaped (.list (ws.map PyData.str)) = true := by
  unfold SeqAt.shaped
  rw [Bool.and_eq_true]
  refine ⟨by show PyData.canLayAll0 _ = true; exact strs_lay ws h, decide_eq_true ?_⟩
  have := strs_dep ws
  simp only [PyData.depth]
  omega
theorem eqv_strs : ∀ ws vs : List Str, PyData.eqvAll (ws.map PyData.str) (vs.map PyData.str) = decide (ws = vs)
  | [], [] => rfl
  | [], _ :: _ => rfl
  | _ :: _, [] => rfl
  | w :: ws, v :: vs => by
    show (PyData.eqv (.str w) (.str v) && PyData.eqvAll (ws.map PyData.str) (vs.map PyData.str)) = _
    rw [eqv_strs ws vs]
    show ((w == v) && _) = _
    by_cases h : w = v
    · subst h
      rw [beq_self_eq_true, Bool.true_and]
      by_cases k : ws = vs
      · subst k; rw [decide_eq_true rfl, decide_eq_true rfl]
      · rw [decide_eq_false k, decide_eq_false fun y => k (List.cons.inj y).2]
    · rw [beq_eq_false_iff_ne.mpr h, Bool.false_and, decide_eq_false fun y => h (List.cons.inj y).1]
/-- two lists of texts, compared -/
theorem ne_strs {K : PySem.W.Frag} {H : Hp} {p q : Addr} {ws vs : List Str} (hw : ∀ z ∈ ws, PyData.strOk z = true) (hv : ∀ z ∈ vs, PyData.strOk z = true) (hp : H p = some (.lst (ws.map V.str))) (hq : H q = some (.lst (vs.map V.str))) {Q : VK} (k : Q (.bl (!decide (ws = vs))) H) : rNeD K (.ref p) (.ref q) H Q := by
  refine ⟨.list _, .list _, .lst (SqL.of hp) (strs_dp ws), .lst (SqL.of hq) (strs_dp vs), strs_shaped hw, strs_shaped hv, ?_⟩
  show Q (.bl (!PyData.eqvAll (ws.map PyData.str) (vs.map PyData.str))) H
  rw [eqv_strs]
  exact k
/-! ### a part of a test -/
def phrK (phr : List (Str × Str)) : List (Key × V) := phr.map fun p => (.inr p.1, .str p.2)
theorem val_phr (x : Str) : ∀ phr : List (Str × Str), valV (phrK phr) (.inr x) = (phr.lookup x).map V.str
  | [] => rfl
  | (a, b) :: r => by
    show valV ((.inr a, .str b) :: phrK r) (.inr x) = _
    by_cases h : a = x
    · subst h
      rw [valV_pos rfl, List.lookup_cons_self]
      rfl
    · rw [valV_neg (fun y => h (Sum.inr.inj y)), val_phr x r, List.lookup_cons, beq_eq_false_iff_ne.mpr (Ne.symm h)]
def sNot : List Str := ["not"]
def sOps : List Str := ["<", "<=", "is"]
def termOk (z : Str) (ns : List Str) : Bool := isNum z || decide (z ∈ ns)
theorem term_ok {z : Str} {ns : List Str} : termV z ns = .non ↔ termOk z ns = false := by
  unfold termV termOk
  by_cases h : isNum z = true
  · rw [if_pos h, h]; exact ⟨(fun y => nomatch y), (fun y => nomatch y)⟩
  · rw [if_neg h, Bool.eq_false_iff.mpr h]
    by_cases k : z ∈ ns
    · rw [if_pos k, decide_eq_true k]; exact ⟨(fun y => nomatch y), (fun y => nomatch y)⟩
    · rw [if_neg k, decide_eq_false k]; exact ⟨fun _ => rfl, fun _ => rfl⟩
def restOf (ws : List Str) : List Str := if ws.take 1 = sNot then ws.drop 1 else ws
def partD (ws ns : List Str) (phr : List (Str × Str)) : PyData :=
  match phr.lookup (Txt.join " " (restOf ws)) with
  | some y => .tuple [.bool (!decide (ws.take 1 = sNot)), .str y, .none, .none]
  | none => match restOf ws with
    | [l, o, r] => if o ∈ sOps ∧ l ≠ r ∧ termOk l ns = true ∧ termOk r ns = true then .tuple [.bool (!decide (ws.take 1 = sNot)), .str o, termD l ns, termD r ns] else .none
    | _ => .none
theorem partD_some {ws ns : List Str} {phr : List (Str × Str)} {y : Str} (e : phr.lookup (Txt.join " " (restOf ws)) = some y) : partD ws ns phr = .tuple [.bool (!decide (ws.take 1 = sNot)), .str y, .none, .none] := by
  unfold partD; rw [e]
theorem partD_three {ws ns : List Str} {phr : List (Str × Str)} {l o r : Str} (e : phr.lookup (Txt.join " " (restOf ws)) = none) (h : restOf ws = [l, o, r]) : partD ws ns phr = if o ∈ sOps ∧ l ≠ r ∧ termOk l ns = true ∧ termOk r ns = true then .tuple [.bool (!decide (ws.take 1 = sNot)), .str o, termD l ns, termD r ns] else .none := by
  unfold partD; rw [e, h]
theorem partD_len {ws ns : List Str} {phr : List (Str × Str)} (e : phr.lookup (Txt.join " " (restOf ws)) = none) (h : (restOf ws).length ≠ 3) : partD ws ns phr = .none := by
  unfold partD; rw [e]
  revert h
  generalize restOf ws = l
  intro h
  match l, h with
  | [], _ => rfl
  | [_], _ => rfl
  | [_, _], _ => rfl
  | [_, _, _], h => exact absurd rfl h
  | _ :: _ :: _ :: _ :: _, _ => rfl
theorem rest_plain {ws : List Str} (p : Plain ws) : Plain (restOf ws) := by
  unfold restOf
  split
  · exact p.drop 1
  · exact p
theorem three {α : Type} {l : List α} (h : l.length = 3) : ∃ a b c, l = [a, b, c] := match l, h with
  | [a, b, c], _ => ⟨a, b, c, rfl⟩
abbrev sPart : Stmt := top 36
theorem scPart : FnScope ["words", "names", "phrases", "wanted", "rest", "phrase", "left", "right"] ["words", "names", "phrases"] (defScope sPart) := ⟨rfl, rfl, rfl, by decide +kernel, rfl, by decide +kernel, by decide +kernel⟩
def spPart (K : PySem.W.Frag) : Sp := fun vs H Q _ => ∃ (wl pn ph : Addr) (ws ns : List Str) (phr : List (Str × Str)), vs = [.ref wl, .ref pn, .ref ph] ∧ SqL K H wl (ws.map V.str) ∧ SqT K H pn (ns.map V.str) ∧ H ph = some (.dK (phrK phr)) ∧ Plain ws ∧
  ∀ v H', Same H H' → TD K H' v (partD ws ns phr) → Q v H'
section
variable {P : Program} {w : World} {K : PySem.W.Frag} {mg : Str → Option Value} {base : Heap}
theorem ok_part {f fN fT : Addr} {fd dN dT : FuncData} (F : Fun K "read_part" "read_part" sPart f fd) (N : FNum K mg fN dN) (M : FTerm K mg fT dT) (T : Glo mg) : FnOk P w K mg base CX0 3 f fd ["words", "names", "phrases"] (spPart K) := by
  have OT : FnOk P w K mg base CX0 2 fT dT ["word", "names"] (spTerm K) := ok_term M.u N T
  refine F.ok scPart (fun vs H Q E h => ?_) (fun cdv A outer s H vs Q E hr h => ?_)
  · obtain ⟨wl, pn, ph, ws, ns, phr, rfl, _⟩ := h
    rfl
  · obtain ⟨wl, pn, ph, ws, ns, phr, rfl, hw, hn, hph, pl, k⟩ := h
    have hu := hu_of hr
    refine ⟨_, pss_cons (ps_set (i := 3) scPart.nd rfl (.inl rfl) (pe_cmpR (op_neD hr.units) (pe_slice sl_list (pv 0) po_none (po_some pe_int)) (pe_lst (pa_cons pe_str pa_nil)) (nomark _)))
      (pss_join (ps_set (i := 4) scPart.nd rfl (.inl rfl) (pe_ifExp (pt_val (pv 3)) (pv 0) (pe_slice sl_list (pv 0) (po_some pe_int) po_none)))
      (pss_cons (ps_set (i := 5) scPart.nd rfl (.inl rfl) (pe_join pe_str (pv 4)))
      (pss_cons (ps_if (pt_cmp (pc_din hu (pv 5) (pv 2))) (pss_one (ps_ret (pe_tup (pa_cons (pv 3) (pa_cons (pe_dget hu (pv 2) (pv 5) (fun _ _ => rfl)) (pa_cons pe_non (pa_cons pe_non pa_nil))))))) pss_nil)
      (pss_cons (ps_if (PW.pt (pw_or (pt_cmpR op_ne (pe_callB call_len_seq (by rfl) T.len PySem.boot_len (pa_cons (pv 4) pa_nil)) pe_int (nomark _))
          (pw_or (pt_cmpR op_notIn_seq (pe_ix ix_list (pv 4) pe_int (fun _ _ => rfl)) (pe_tup (pa_cons pe_str (pa_cons pe_str (pa_cons pe_str pa_nil)))) (by rfl))
          (pw_or1 (pt_cmpR op_eq (pe_ix ix_list (pv 4) pe_int (fun _ _ => rfl)) (pe_ix ix_list (pv 4) pe_int (fun _ _ => rfl)) (nomark _)))))) (pss_one (ps_ret pe_non)) pss_nil)
      (pss_cons (ps_par (i := 6) (j := 7) (by rfl) scPart.nd rfl rfl (by decide) rfl rfl (pa_cons (pe_call OT hr rfl M.g M.u.kp M.b .nil pass0 (pa_cons (pe_ix ix_list (pv 4) pe_int (fun _ _ => rfl)) (pa_cons (pv 1) pa_nil)))
        (pa_cons (pe_call OT hr rfl M.g M.u.kp M.b .nil pass0 (pa_cons (pe_ix ix_list (pv 4) pe_int (fun _ _ => rfl)) (pa_cons (pv 1) pa_nil))) pa_nil)) (by rfl))
      (pss_cons (ps_if (PW.pt (pw_or (pt_cmpR op_isN (pv 6) pe_non (nomark _)) (pw_or1 (pt_cmpR op_isN (pv 7) pe_non (nomark _))))) (pss_one (ps_ret pe_non)) pss_nil)
      (pss_one (ps_ret (pe_tup (pa_cons (pv 3) (pa_cons (pe_ix ix_list (pv 4) pe_int (fun _ _ => rfl)) (pa_cons (pv 6) (pa_cons (pv 7) pa_nil))))))))))))), ?_⟩
    refine ⟨_, rfl, _, rfl, wl, _, rfl, hw, fun p hp => ?_⟩
    have s1 : Same H _ := same_new (o := .lst (cutV (ws.map V.str) none (some 1))) hp
    have p1 : upd H p (.lst (cutV (ws.map V.str) none (some 1))) p = some (.lst ((ws.take 1).map V.str)) := by
      rw [upd_same, show cutV (ws.map V.str) none (some 1) = (ws.map V.str).take 1 from cut_to _ 1, List.map_take]
    generalize upd H p (.lst (cutV (ws.map V.str) none (some 1))) = H1 at *
    refine ⟨(by show 1 ≤ sizeLine; decide), fun q hq => ?_⟩
    have s2 : Same H1 _ := same_new (o := .lst (sNot.map V.str)) hq
    have q2 : upd H1 q (.lst (sNot.map V.str)) q = some (.lst (sNot.map V.str)) := upd_same
    have p2 := s2 _ _ p1
    show rNeD _ _ _ (upd H1 q (.lst (sNot.map V.str))) _
    generalize upd H1 q (.lst (sNot.map V.str)) = H2 at *
    have s02 := s1.trans s2
    refine ne_strs (ws := ws.take 1) (vs := sNot) (fun z hz => (pl.asc z (List.mem_of_mem_take hz)).ok) (by decide +kernel) p2 q2 ?_
    refine ⟨fun σ G => ∃ rl : Addr, σ = [some (.ref wl), some (.ref pn), some (.ref ph), some (.bl (!decide (ws.take 1 = sNot))), some (.ref rl), none, none, none] ∧ Same H G ∧ SqL K G rl ((restOf ws).map V.str), ?_, ?_⟩
    · refine ⟨_, rfl, _, rfl, ?_⟩
      by_cases hnot : ws.take 1 = sNot
      · refine iteNS hnot ⟨_, rfl, _, rfl, wl, _, rfl, s02.seq hw, fun r hr' => ?_⟩
        refine ⟨r, rfl, s02.trans (same_new hr'), ?_⟩
        refine SqL.of ?_
        rw [upd_same, show cutV (ws.map V.str) (some 1) none = (ws.map V.str).drop 1 from cut_from _ 1, ← List.map_drop]
        unfold restOf
        rw [if_pos hnot]
      · refine iteNN hnot ⟨_, rfl, wl, rfl, s02, ?_⟩
        unfold restOf
        rw [if_neg hnot]
        exact s02.seq hw
    rintro σ G ⟨rl, rfl, sG, hrl⟩
    have rp := rest_plain pl
    refine ⟨⟨_, rfl⟩, _, rfl, _, rl, restOf ws, rfl, rfl, .inl hrl, (by have := rp.tot; show _ + _ * 1 ≤ _; omega), ?_⟩
    have hphG := sG _ _ hph
    refine ⟨_, rfl, _, rfl, ph, _, rfl, DGet.k (k := Sum.inr (Txt.join " " (restOf ws))) hphG, _, rfl, ?_⟩
    have dg := DGet.k (k := Sum.inr (Txt.join " " (restOf ws))) hphG
    rw [val_phr] at dg ⊢
    cases e : phr.lookup (Txt.join " " (restOf ws)) with
    | some y =>
      rw [e] at dg
      refine iteT ?_
      refine ⟨_, rfl, _, rfl, _, rfl, ph, _, rfl, dg, (by show 4 ≤ sizeLine; decide), fun t ht => ?_⟩
      refine k _ _ (sG.trans (same_new ht)) ?_
      rw [partD_some e]
      exact .tup (SqT.of upd_same) (.cons (.bl _) (.cons (.str _) (.cons .non (.cons .non .nil))))
    | none =>
      refine iteF ?_
      have none_ok : partD ws ns phr = .none → ∀ H', Same H H' → Q .non H' := fun e H' s' => k _ _ s' (by rw [e]; exact .non)
      refine ⟨_, rfl, rl, _, rfl, .inl hrl, rfl, _, rfl, ?_⟩
      rw [dec_i, List.length_map]
      by_cases h3 : (restOf ws).length = 3
      · obtain ⟨l, o, r, e3⟩ := three h3
        rw [e3] at hrl rp
        have eP := partD_three (ns := ns) e e3
        have zl : ∀ z ∈ [l, o, r], Asc z ∧ z.length ≤ sizeLine := fun z hz => ⟨rp.asc z hz, rp.len z hz⟩
        refine iteNS (by omega) ?_
        refine ⟨_, rfl, rl, _, _, .str o, rfl, rfl, hrl, rfl, (by show 3 ≤ sizeLine; decide), fun T hT => ?_⟩
        have s3 : Same G _ := same_new (o := .tup (sOps.map V.str)) hT
        have t3 : upd G T (.tup (sOps.map V.str)) T = some (.tup (sOps.map V.str)) := upd_same
        show rIn _ _ _ _ (upd G T (.tup (sOps.map V.str))) _
        generalize upd G T (.tup (sOps.map V.str)) = G3 at *
        have sG3 := sG.trans s3
        have hrl3 := s3.seq hrl
        refine ⟨T, _, rfl, .inr (SqT.of t3), rfl, flat_strs sOps, _, rfl, ?_⟩
        rw [in_strs]
        by_cases ho : o ∈ sOps
        · refine iteNS ho ?_
          refine ⟨_, rfl, rl, _, _, .str l, rfl, rfl, hrl3, rfl, _, rfl, rl, _, _, .str r, rfl, rfl, hrl3, rfl, rfl, _, rfl, ?_⟩
          rw [dec_str]
          by_cases hlr : l = r
          · exact iteY hlr (none_ok (by rw [eP, if_neg fun y => y.2.1 hlr]) _ sG3)
          refine iteN hlr ?_
          refine ⟨_, rfl, rl, _, _, .str l, rfl, rfl, hrl3, rfl, _, rfl, l, pn, ns, rfl, (zl l (by simp)).2, (zl l (by simp)).1, Same.tup sG3 hn, ?_⟩
          refine ⟨_, rfl, rl, _, _, .str r, rfl, rfl, hrl3, rfl, _, rfl, r, pn, ns, rfl, (zl r (by simp)).2, (zl r (by simp)).1, Same.tup sG3 hn, ?_⟩
          refine ⟨_, _, rfl, ?_⟩
          refine ⟨_, rfl, rfl, _, rfl, ?_⟩
          cases el : termOk l ns with
          | false =>
            refine iteY (term_ok.mpr el) (iteT (none_ok (by rw [eP, if_neg fun y => by rw [el] at y; exact Bool.false_ne_true y.2.2.1]) _ sG3))
          | true =>
            refine iteN (fun y => by rw [term_ok.mp y] at el; cases el) ?_
            refine ⟨_, rfl, rfl, _, rfl, ?_⟩
            cases er : termOk r ns with
            | false =>
              exact iteY (term_ok.mpr er) (none_ok (by rw [eP, if_neg fun y => by rw [er] at y; exact Bool.false_ne_true y.2.2.2]) _ sG3)
            | true =>
              refine iteN (fun y => by rw [term_ok.mp y] at er; cases er) ?_
              refine ⟨_, rfl, _, rfl, rl, _, _, .str o, rfl, rfl, hrl3, rfl, _, rfl, _, rfl, (by show 4 ≤ sizeLine; decide), fun t ht => ?_⟩
              refine k _ _ (sG3.trans (same_new ht)) ?_
              rw [eP, if_pos ⟨ho, hlr, el, er⟩]
              exact .tup (SqT.of upd_same) (.cons (.bl _) (.cons (.str _) (.cons (term_td _ _) (.cons (term_td _ _) .nil))))
        · exact iteNN ho (iteT (none_ok (by rw [eP, if_neg fun y => ho y.1]) _ sG3))
      · exact iteNN (by omega) (none_ok (partD_len e h3) _ sG)
end
end IdL
namespace IdL
open PySem L2 TL
/-! ### rows of words -/
inductive RowsL (H : Hp) : List Addr → List (List Str) → Prop
  | nil : RowsL H [] []
  | cons {a : Addr} {g : List Str} {as : List Addr} {gs : List (List Str)} : H a = some (.lst (g.map V.str)) → RowsL H as gs → RowsL H (a :: as) (g :: gs)
theorem RowsL.same {H H' : Hp} : ∀ {as : List Addr} {gs : List (List Str)}, RowsL H as gs → (∀ a ∈ as, ∀ o, H a = some o → H' a = some o) → RowsL H' as gs
  | _, _, .nil, _ => .nil
  | _, _, .cons h t, k => .cons (k _ (List.mem_cons_self ..) _ h) (RowsL.same t fun a ha => k a (List.mem_cons_of_mem _ ha))
theorem RowsL.snoc {H : Hp} {b : Addr} {g : List Str} (e : H b = some (.lst (g.map V.str))) : ∀ {as : List Addr} {gs : List (List Str)}, RowsL H as gs → RowsL H (as ++ [b]) (gs ++ [g])
  | _, _, .nil => .cons e .nil
  | _, _, .cons h t => .cons h (RowsL.snoc e t)
theorem RowsL.len {H : Hp} : ∀ {as : List Addr} {gs : List (List Str)}, RowsL H as gs → as.length = gs.length
  | _, _, .nil => rfl
  | _, _, .cons _ t => by rw [List.length_cons, List.length_cons, RowsL.len t]
theorem RowsL.get {H : Hp} : ∀ {as : List Addr} {gs : List (List Str)} (r : RowsL H as gs) (i : Nat) {a : Addr}, as[i]? = some a → ∃ g, gs[i]? = some g ∧ H a = some (.lst (g.map V.str))
  | _, _, .cons h t, 0, a, e => by cases e; exact ⟨_, rfl, h⟩
  | _, _, .cons h t, i + 1, a, e => RowsL.get t i e
def splitGo : List Str → List (List Str) → List Str → List (List Str)
  | [], init, last => init ++ [last]
  | w :: ws, init, last => if w = "and" then splitGo ws (init ++ [last]) [] else splitGo ws init (last ++ [w])
def splitW (ws : List Str) : List (List Str) := splitGo ws [] []
theorem splitGo_cons (w : Str) (ws : List Str) (init : List (List Str)) (last : List Str) : splitGo (w :: ws) init last = if w = "and" then splitGo ws (init ++ [last]) [] else splitGo ws init (last ++ [w]) := rfl
abbrev sParts : Stmt := top 37
theorem scParts : FnScope ["words", "parts", "word"] ["words"] (defScope sParts) := ⟨rfl, rfl, rfl, by decide +kernel, rfl, by decide +kernel, by decide +kernel⟩
def spParts (K : PySem.W.Frag) : Sp := fun vs H Q _ => ∃ (wl : Addr) (ws : List Str), vs = [.ref wl] ∧ SqL K H wl (ws.map V.str) ∧ ws.length ≤ 1000000 ∧
  ∀ (a : Addr) (as : List Addr) H', Same H H' → H' a = some (.lst (as.map V.ref)) → RowsL H' as (splitW ws) → Q (.ref a) H'
section
variable {P : Program} {w : World} {K : PySem.W.Frag} {mg : Str → Option Value} {base : Heap}
theorem ok_parts {f : Addr} {fd : FuncData} (F : Fun K "split_parts" "split_parts" sParts f fd) : FnOk P w K mg base CX0 1 f fd ["words"] (spParts K) := by
  refine F.ok scParts (fun vs H Q E h => ?_) (fun cdv A outer s H vs Q E hr h => ?_)
  · obtain ⟨wl, ws, rfl, _⟩ := h
    rfl
  · obtain ⟨wl, ws, rfl, hw, few, k⟩ := h
    refine ⟨_, pss_cons (ps_set (i := 1) scParts.nd rfl (.inl rfl) (pe_lst (pa_cons (pe_lst pa_nil) pa_nil)))
      (pss_cons (ps_for PassesOwn.never rfl (pi_list (pv 0)) (pg_name (i := 2) scParts.nd rfl (.inl rfl))
        (pss_one (ps_if (pt_cmpR op_eq (pv 2) pe_str (nomark _))
          (pss_one (ps_expr (pe_bm PySem.F.plainAttrs_list PySem.F.slot_list_append PySem.F.type_list_append mt_append (pv 1) (pa_cons (pe_lst pa_nil) pa_nil))))
          (pss_one (ps_expr (pe_bm PySem.F.plainAttrs_list PySem.F.slot_list_append PySem.F.type_list_append mt_append (pe_ix ix_list (pv 1) (pe_un un_neg pe_int) (fun _ _ => rfl)) (pa_cons (pv 2) pa_nil)))))))
      (pss_one (ps_ret (pv 1)))), ?_⟩
    refine ⟨Nat.zero_le _, fun q hq => ⟨(by show 1 ≤ sizeLine; decide), fun p hp => ?_⟩⟩
    have s1 : Same H _ := same_new (o := .lst []) hq
    have q1 : upd H q (.lst []) q = some (.lst []) := upd_same
    generalize upd H q (.lst []) = H1 at *
    have s2 : Same H1 _ := same_new (o := .lst [.ref q]) hp
    have p2 : upd H1 p (.lst [.ref q]) p = some (.lst [.ref q]) := upd_same
    have q2 := s2 _ _ q1
    generalize upd H1 p (.lst [.ref q]) = H2 at *
    have s02 := s1.trans s2
    have p0 : H p = none := s1.free hp
    have npq : q ≠ p := fun z => by rw [z, hp] at q1; cases q1
    refine ⟨_, rfl, wl, rfl, ⟨_, s02.seq hw⟩, for_list (K := K) (a := wl) (xs := ws.map V.str) (fun i σ G => ∃ (as : List Addr) (b : Addr) (gs : List (List Str)) (g : List Str) (v : Option V), σ = [some (.ref wl), some (.ref p), v] ∧ Same H G ∧ G p = some (.lst ((as ++ [b]).map V.ref)) ∧ RowsL G as gs ∧ G b = some (.lst (g.map V.str)) ∧ b ∉ as ∧ H b = none ∧ (∀ a ∈ as, a ≠ p) ∧ b ≠ p ∧ as.length ≤ i ∧ g.length ≤ i ∧ splitW ws = splitGo (ws.drop i) gs g)
      ⟨[], q, [], [], none, rfl, s02, p2, .nil, q2, List.not_mem_nil, hq, (fun _ h => absurd h List.not_mem_nil), npq, Nat.le_refl _, Nat.le_refl _, rfl⟩ (fun i σ G _ ⟨_, _, _, _, _, _, s3, _⟩ => s3.seq hw) ?_ ?_⟩
    · rintro i x σ G hi ⟨as, b, gs, g, v, rfl, s3, hpG, R, hb, nb, b0, np, nbp, la, lg, em⟩
      have hi' : i < ws.length := by
        have := (List.getElem?_eq_some_iff.mp hi).1
        rwa [List.length_map] at this
      obtain ⟨z, hz⟩ : ∃ z, ws[i]? = some z := ⟨ws[i], List.getElem?_eq_getElem hi'⟩
      rw [List.getElem?_map, hz] at hi
      cases hi
      rw [show ws.drop i = z :: ws.drop (i + 1) from by
        obtain ⟨h1, h2⟩ := List.getElem?_eq_some_iff.mp hz
        rw [← h2]; exact List.drop_eq_getElem_cons h1, splitGo_cons] at em
      refine ⟨_, rfl, rfl, _, rfl, ?_⟩
      rw [dec_str]
      by_cases hand : z = "and"
      · rw [if_pos hand] at em
        refine iteY hand ?_
        refine ⟨_, rfl, .inl ⟨rfl, _, SqL.of hpG⟩, Nat.zero_le _, fun n hn => ?_⟩
        have s4 : Same G _ := same_new (o := .lst []) hn
        have n4 : upd G n (.lst []) n = some (.lst []) := upd_same
        generalize upd G n (.lst []) = G4 at *
        have hp4 := s4 _ _ hpG
        have nnp : n ≠ p := fun y => by rw [y, hpG] at hn; cases hn
        refine ⟨p, _, _, rfl, rfl, hp4, (by rw [List.length_map, List.length_append, sizeLine_eq]; show as.length + 1 < _; omega), ?_⟩
        refine ⟨as ++ [b], n, gs ++ [g], [], _, rfl, fun c o e => ?_, ?_, ?_, ?_, ?_, s3.free hn, ?_, nnp, ?_, Nat.zero_le _, em⟩
        · rw [upd_ne (fun y => by rw [y, p0] at e; cases e)]
          exact s4 _ _ (s3 _ _ e)
        · rw [upd_same, List.map_append (l₂ := [n])]; rfl
        · refine RowsL.snoc ?_ (R.same fun a ha o e => ?_)
          · rw [upd_ne nbp]; exact s4 _ _ hb
          · rw [upd_ne (np a ha)]; exact s4 _ _ e
        · rw [upd_ne nnp]; exact n4
        · intro hm
          rcases List.mem_append.mp hm with h | h
          · obtain ⟨j, hj⟩ := List.mem_iff_getElem?.mp h
            obtain ⟨_, _, e⟩ := R.get j hj
            rw [e] at hn; cases hn
          · rw [List.mem_singleton.mp h, hb] at hn; cases hn
        · intro a ha
          rcases List.mem_append.mp ha with h | h
          · exact np a h
          · rw [List.mem_singleton.mp h]; exact nbp
        · rw [List.length_append]; show as.length + 1 ≤ _; omega
      · rw [if_neg hand] at em
        refine iteN hand ?_
        refine ⟨_, rfl, _, rfl, p, _, _, .ref b, rfl, rfl, SqL.of hpG, (by rw [List.map_append]; exact atI_last _ _), ?_⟩
        refine ⟨.inl ⟨rfl, _, SqL.of hb⟩, _, rfl, b, _, _, rfl, rfl, hb, (by rw [List.length_map, sizeLine_eq]; omega), ?_⟩
        refine ⟨as, b, gs, g ++ [z], _, rfl, fun c o e => ?_, ?_, ?_, ?_, nb, b0, np, nbp, by omega, ?_, em⟩
        · rw [upd_ne (fun y => by rw [y, b0] at e; cases e)]
          exact s3 _ _ e
        · rw [upd_ne nbp.symm]; exact hpG
        · exact R.same fun a ha o e => by rw [upd_ne (show a ≠ b from fun y => nb (by rw [← y]; exact ha))]; exact e
        · rw [upd_same, List.map_append]; rfl
        · rw [List.length_append]; show g.length + 1 ≤ _; omega
    · rintro σ G ⟨as, b, gs, g, v, rfl, s3, hpG, R, hb, nb, b0, np, nbp, la, lg, em⟩
      rw [List.length_map, List.drop_length] at em
      refine ⟨_, rfl, k p (as ++ [b]) G s3 hpG ?_⟩
      rw [em]
      exact RowsL.snoc hb R
abbrev sSpaced : Stmt := top 39
theorem scSpaced : FnScope ["words"] ["words"] (defScope sSpaced) := ⟨rfl, rfl, rfl, by decide +kernel, rfl, by decide +kernel, by decide +kernel⟩
def spSpaced (K : PySem.W.Frag) : Sp := fun vs H Q _ => ∃ (wl : Addr) (ws : List Str), vs = [.ref wl] ∧ SqL K H wl (ws.map V.str) ∧ Q (.bl (!decide (("" : Str) ∈ ws))) H
theorem ok_spaced {f : Addr} {fd : FuncData} (F : Fun K "is_spaced" "is_spaced" sSpaced f fd) : FnOk P w K mg base CX0 1 f fd ["words"] (spSpaced K) := by
  refine F.ok scSpaced (fun vs H Q E h => ?_) (fun cdv A outer s H vs Q E hr h => ?_)
  · obtain ⟨wl, ws, rfl, _⟩ := h
    rfl
  · obtain ⟨wl, ws, rfl, hw, k⟩ := h
    refine ⟨_, pss_one (ps_ret (pe_cmpR op_notIn_seq pe_str (pv 0) (by rfl))), ?_⟩
    refine ⟨_, rfl, wl, _, rfl, .inl hw, rfl, flat_strs ws, ?_⟩
    rw [in_strs]
    exact k
def linesOf (x : Str) : List Str := if x = "" then [] else Txt.split x "\n"
abbrev sLines : Stmt := top 32
theorem scLines : FnScope ["text"] ["text"] (defScope sLines) := ⟨rfl, rfl, rfl, by decide +kernel, rfl, by decide +kernel, by decide +kernel⟩
def spLines : Sp := fun vs H Q _ => ∃ x : Str, vs = [.str x] ∧ x.length + 2 ≤ sizeLine ∧ ∀ a, H a = none → Q (.ref a) (upd H a (.lst ((linesOf x).map V.str)))
theorem ok_lines {f : Addr} {fd : FuncData} (F : Fun K "split_lines" "split_lines" sLines f fd) : FnOk P w K mg base CX0 1 f fd ["text"] spLines := by
  refine F.ok scLines (fun vs H Q E h => ?_) (fun cdv A outer s H vs Q E hr h => ?_)
  · obtain ⟨x, rfl, _⟩ := h
    rfl
  · obtain ⟨x, rfl, hx, k⟩ := h
    refine ⟨_, pss_cons (ps_if (pt_cmpR op_eq (pv 0) pe_str (nomark _)) (pss_one (ps_ret (pe_lst pa_nil))) pss_nil) (pss_one (ps_ret (pe_split (pv 0) pe_str))), ?_⟩
    unfold linesOf at k
    refine ⟨_, rfl, rfl, _, rfl, ?_⟩
    rw [dec_str]
    by_cases h : x = ""
    · rw [if_pos h] at k
      exact iteY h ⟨Nat.zero_le _, k⟩
    · rw [if_neg h] at k
      exact iteN h ⟨_, rfl, ⟨_, rfl⟩, _, _, rfl, rfl, rfl, hx, k⟩
end
end IdL
namespace IdL
open PySem L2 TL
def isNoneD : PyData → Bool
  | .none => true
  | _ => false
def testD (ws ns : List Str) (phr : List (Str × Str)) : PyData := if 4 < (splitW ws).length then .none else
  if ((splitW ws).map fun g => partD g ns phr).any isNoneD = true then .none else .tuple ((splitW ws).map fun g => partD g ns phr)
theorem any_none : ∀ ds : List PyData, (ds.any fun z => PyData.eqv z .none) = ds.any isNoneD
  | [] => rfl
  | d :: ds => by
    rw [List.any_cons, List.any_cons, any_none ds]
    cases d <;> rfl
/-- names, and what phrases stand for, are texts as they may be -/
structure Well (ns : List Str) (phr : List (Str × Str)) : Prop where
  n : ∀ z ∈ ns, PyData.strOk z = true
  p : ∀ z ∈ phr, PyData.strOk z.2 = true
theorem term_lay {z : Str} {ns : List Str} (h : ∀ z ∈ ns, PyData.strOk z = true) : PyData.canLay0 (termD z ns) = true ∧ PyData.depth (termD z ns) = 0 := by
  unfold termD
  by_cases a : isNum z = true
  · rw [if_pos a]; exact ⟨rfl, by simp [PyData.depth]⟩
  · rw [if_neg a]
    by_cases b : z ∈ ns
    · rw [if_pos b]; exact ⟨h z b, by simp [PyData.depth]⟩
    · rw [if_neg b]; exact ⟨rfl, by simp [PyData.depth]⟩
theorem ops_ok : ∀ z ∈ sOps, PyData.strOk z = true := by decide +kernel
theorem look_mem {x y : Str} : ∀ {l : List (Str × Str)}, l.lookup x = some y → ∃ a, (a, y) ∈ l
  | (a, b) :: l, h => by
    rw [List.lookup_cons] at h
    split at h
    · cases h; exact ⟨a, List.mem_cons_self ..⟩
    · obtain ⟨c, hc⟩ := look_mem h; exact ⟨c, List.mem_cons_of_mem _ hc⟩
theorem four_lay {b : Bool} {o : Str} {x y : PyData} (ho : PyData.strOk o = true) (hx : PyData.canLay0 x = true ∧ PyData.depth x = 0) (hy : PyData.canLay0 y = true ∧ PyData.depth y = 0) : PyData.canLay0 (.tuple [.bool b, .str o, x, y]) = true ∧ PyData.depth (.tuple [.bool b, .str o, x, y]) ≤ 1 := by
  refine ⟨?_, ?_⟩
  · show (true && (PyData.strOk o && (PyData.canLay0 x && (PyData.canLay0 y && true)))) = true
    rw [ho, hx.1, hy.1]; rfl
  · simp only [PyData.depth, PyData.depthAll, hx.2, hy.2]; decide
theorem part_lay {ws ns : List Str} {phr : List (Str × Str)} (W : Well ns phr) : PyData.canLay0 (partD ws ns phr) = true ∧ PyData.depth (partD ws ns phr) ≤ 1 := by
  cases e : phr.lookup (Txt.join " " (restOf ws)) with
  | some y =>
    rw [partD_some e]
    obtain ⟨a, ha⟩ := look_mem e
    exact four_lay (W.p _ ha) ⟨rfl, by simp [PyData.depth]⟩ ⟨rfl, by simp [PyData.depth]⟩
  | none =>
    by_cases h3 : (restOf ws).length = 3
    · obtain ⟨l, o, r, e3⟩ := three h3
      rw [partD_three e e3]
      split
      · rename_i c
        exact four_lay (ops_ok o c.1) (term_lay W.n) (term_lay W.n)
      · exact ⟨rfl, by simp [PyData.depth]⟩
    · rw [partD_len e h3]
      exact ⟨rfl, by simp [PyData.depth]⟩
theorem parts_lay {ns : List Str} {phr : List (Str × Str)} (W : Well ns phr) : ∀ gs : List (List Str), PyData.canLayAll0 (gs.map fun g => partD g ns phr) = true ∧ PyData.depthAll (gs.map fun g => partD g ns phr) ≤ 2
  | [] => ⟨rfl, by simp [PyData.depthAll]⟩
  | g :: gs => by
    obtain ⟨h1, h2⟩ := parts_lay W gs
    obtain ⟨k1, k2⟩ := part_lay (ws := g) W
    refine ⟨?_, ?_⟩
    · show (PyData.canLay0 (partD g ns phr) && PyData.canLayAll0 (gs.map fun g => partD g ns phr)) = true
      rw [k1, h1]; rfl
    · simp only [List.map_cons, PyData.depthAll]; omega
theorem go_plain : ∀ (ws : List Str) (init : List (List Str)) (last : List Str), (∀ g ∈ init, Plain g) → Plain (last ++ ws) → ∀ g ∈ splitGo ws init last, Plain g
  | [], init, last, hi, hl, g, hg => by
    rw [List.append_nil] at hl
    rcases List.mem_append.mp hg with h | h
    · exact hi g h
    · rw [List.mem_singleton.mp h]; exact hl
  | w :: ws, init, last, hi, hl, g, hg => by
    rw [splitGo_cons] at hg
    split at hg
    · refine go_plain ws (init ++ [last]) [] (fun g' h' => ?_) ?_ g hg
      · rcases List.mem_append.mp h' with h | h
        · exact hi g' h
        · rw [List.mem_singleton.mp h]
          have := hl.take last.length
          rwa [List.take_left'] at this
          rfl
      · have := hl.drop (last.length + 1)
        rw [show last ++ w :: ws = (last ++ [w]) ++ ws from by simp, List.drop_left' (by simp)] at this
        exact this
    · exact go_plain ws init (last ++ [w]) hi (by rw [List.append_assoc]; exact hl) g hg
abbrev sTest : Stmt := top 38
theorem scTest : FnScope ["words", "names", "phrases", "rows", "parts", "row"] ["words", "names", "phrases"] (defScope sTest) := ⟨rfl, rfl, rfl, by decide +kernel, rfl, by decide +kernel, by decide +kernel⟩
structure FPart (K : PySem.W.Frag) (mg : Str → Option Value) (f : Addr) (d : FuncData) : Prop where
  u : Fun K "read_part" "read_part" sPart f d
  b : Binds K d ["words", "names", "phrases"] []
  g : mg "read_part" = some (.ref f)
structure FSplit (K : PySem.W.Frag) (mg : Str → Option Value) (f : Addr) (d : FuncData) : Prop where
  u : Fun K "split_parts" "split_parts" sParts f d
  b : Binds K d ["words"] []
  g : mg "split_parts" = some (.ref f)
def spTest (K : PySem.W.Frag) : Sp := fun vs H Q _ => ∃ (wl pn ph : Addr) (ws ns : List Str) (phr : List (Str × Str)), vs = [.ref wl, .ref pn, .ref ph] ∧ SqL K H wl (ws.map V.str) ∧ SqT K H pn (ns.map V.str) ∧ H ph = some (.dK (phrK phr)) ∧ Plain ws ∧ Well ns phr ∧
  ∀ v H', Same H H' → TD K H' v (testD ws ns phr) → Q v H'
section
variable {P : Program} {w : World} {K : PySem.W.Frag} {mg : Str → Option Value} {base : Heap}
theorem ok_test {f fN fT fP fS : Addr} {fd dN dT dP dS : FuncData} (F : Fun K "read_test" "read_test" sTest f fd) (N : FNum K mg fN dN) (M : FTerm K mg fT dT) (PP : FPart K mg fP dP) (S : FSplit K mg fS dS) (T : Glo mg) : FnOk P w K mg base CX0 4 f fd ["words", "names", "phrases"] (spTest K) := by
  have OP : FnOk P w K mg base CX0 3 fP dP ["words", "names", "phrases"] (spPart K) := ok_part PP.u N M T
  have OS : FnOk P w K mg base CX0 1 fS dS ["words"] (spParts K) := ok_parts S.u
  obtain ⟨tk, tP⟩ := T.prt
  refine F.ok scTest (fun vs H Q E h => ?_) (fun cdv A outer s H vs Q E hr h => ?_)
  · obtain ⟨wl, pn, ph, ws, ns, phr, rfl, _⟩ := h
    rfl
  · obtain ⟨wl, pn, ph, ws, ns, phr, rfl, hw, hn, hph, pl, W, k⟩ := h
    have hu := hu_of hr
    have hu65 : (A.deeper (PyProof.Rows.envOfC "read_test" (defScope sTest) s.heap.objs.size f cdv)).units + 65 < cLine := by have := hr.un; omega
    refine ⟨_, pss_cons (ps_set (i := 3) scTest.nd rfl (.inl rfl) (pe_call OS (hr.mono (by decide)) rfl S.g S.u.kp S.b .nil pass0 (pa_cons (pv 0) pa_nil)))
      (pss_cons (ps_if (pt_cmpR op_gt (pe_callB call_len_seq (by rfl) T.len PySem.boot_len (pa_cons (pv 3) pa_nil)) (pe_glob rfl tP (v := .int 4) ⟨_, rfl⟩) (nomark _)) (pss_one (ps_ret pe_non)) pss_nil)
      (pss_cons (ps_setLc (i := 4) (own := [("row", 5)]) (g := gName 5) (tt := tYes) (by rfl) scTest.nd rfl rfl (sw_true rfl rfl rfl (by decide +kernel)) (pi_list (pv 3)) (blkOk_by (N := ["words", "names", "phrases", "rows", "parts", "row"]) (sc := defScope sTest) (by decide +kernel))
          (fun _ _ _ _ _ => pg_name (i := 5) scTest.nd rfl (.inl rfl)) (fun _ _ _ _ _ => pts_nil) (fun _ _ _ _ _ => pe_call OP hr rfl PP.g PP.u.kp PP.b .nil pass0 (pa_cons (pv 5) (pa_cons (pv 1) (pa_cons (pv 2) pa_nil)))))
      (pss_cons (ps_if (pt_cmpR (op_inD hu65) pe_non (pv 4) (by rfl)) (pss_one (ps_ret pe_non)) pss_nil)
      (pss_one (ps_ret (pe_callTy call_tuple_of (by rfl) T.tuple (by decide +kernel) (pa_cons (pv 4) pa_nil))))))), ?_⟩
    refine ⟨_, rfl, wl, ws, rfl, hw, pl.few, fun ra as H1 s1 hra R => ?_⟩
    refine ⟨_, rfl, ra, _, rfl, .inl (SqL.of hra), _, _, rfl, rfl, _, rfl, ?_⟩
    rw [List.length_map, R.len]
    refine ite2 (fun g => ?_) (fun g => ?_)
    · have := dt g
      refine k _ _ s1 ?_
      unfold testD
      rw [if_pos (by omega)]
      exact .non
    have h4 : ¬ 4 < (splitW ws).length := by have := df g; omega
    refine ⟨_, rfl, ra, rfl, ⟨_, SqL.of hra⟩, fun D hD => lc_list (K := K) (a := ra) (xs := as.map V.ref) (fun i G => Same H1 G ∧ ∃ acc, G D = some (.lst acc) ∧ TDs K G acc (((splitW ws).take i).map fun g => partD g ns phr) ∧ acc.length = i) ⟨same_new hD, [], upd_same, .nil, rfl⟩ (fun i G _ ⟨sG, _⟩ => SqL.of (sG _ _ hra)) ?_ ?_⟩
    · rintro i x G hi ⟨sG, acc, hDG, td, la⟩
      have hi' : i < as.length := by
        have := (List.getElem?_eq_some_iff.mp hi).1
        rwa [List.length_map] at this
      obtain ⟨b, hb⟩ : ∃ b, as[i]? = some b := ⟨as[i], List.getElem?_eq_getElem hi'⟩
      rw [List.getElem?_map, hb] at hi
      cases hi
      obtain ⟨g, hg, hbg⟩ := R.get i hb
      have gp : Plain g := go_plain ws [] [] (fun _ h => absurd h List.not_mem_nil) pl g (List.mem_of_getElem? hg)
      have s0G := s1.trans sG
      refine ⟨rfl, ?_⟩
      refine ⟨_, rfl, _, rfl, _, rfl, b, pn, ph, g, ns, phr, rfl, SqL.of (sG _ _ hbg), Same.tup s0G hn, s0G _ _ hph, gp, fun v G2 s2 t2 => ?_⟩
      have hD2 := s2 _ _ hDG
      refine ⟨acc, hD2, (by rw [sizeLine_eq]; rw [R.len] at hi'; omega), fun c o e => ?_, acc ++ [v], upd_same, ?_, ?_⟩
      · rw [upd_ne (fun y => by rw [y, hD] at e; cases e)]
        exact s2 _ _ (sG _ _ e)
      · have kk : KeepT G2 (upd G2 D (.lst (acc ++ [v]))) := KeepT.lst hD2
        rw [List.take_add_one, hg, List.map_append]
        exact TDs.snoc (t2.keep kk) (td.keep ((KeepT.of s2).trans kk))
      · rw [List.length_append, la]; rfl
    · rintro G ⟨sG, acc, hDG, td, la⟩
      rw [List.length_map, R.len, List.take_length] at td
      have s0G := s1.trans sG
      obtain ⟨l1, l2⟩ := parts_lay W (splitW ws)
      refine ⟨_, rfl, .none, _, .non, .lst (SqL.of hDG) td.dp, (by decide +kernel), ?_, _, rfl, ?_⟩
      · unfold SeqAt.shaped
        rw [Bool.and_eq_true]
        refine ⟨l1, decide_eq_true ?_⟩
        simp only [PyData.depth]
        omega
      rw [any_none]
      have e4 : testD ws ns phr = if ((splitW ws).map fun g => partD g ns phr).any isNoneD = true then .none else .tuple ((splitW ws).map fun g => partD g ns phr) := by
        unfold testD
        rw [if_neg h4]
      refine ite2 (fun g => ?_) (fun g => ?_)
      · rw [if_pos g] at e4
        exact k _ _ s0G (by rw [e4]; exact .non)
      · rw [if_neg g] at e4
        refine ⟨_, rfl, D, acc, rfl, .inl ⟨SqL.of hDG, fun t ht => ?_⟩⟩
        refine k _ _ (s0G.trans (same_new ht)) ?_
        rw [e4]
        exact .tup (SqT.of upd_same) (td.keep (KeepT.of (same_new ht)))
end
end IdL
namespace IdL
open PySem L2 TL PySem.Spec PyProof.Rows
theorem at_back {α : Type} (xs : List α) (k : Nat) (h : 0 < k) (hk : k ≤ xs.length) : atI xs (-(k : Int)) = xs[xs.length - k]? := by
  unfold atI ixN
  rw [if_neg (by omega), if_pos (by omega)]
  have e : (-(k : Int) + (xs.length : Int)).toNat = xs.length - k := by omega
  show xs[(-(k : Int) + (xs.length : Int)).toNat]? = _
  rw [e]
/-! ### dict(d), d a dict of the module with texts for texts -/
inductive EsIs : List DictEntry → List (Str × Str) → Prop
  | nil : EsIs [] []
  | cons {e : DictEntry} {x y : Str} {t u : Tok} {es : List DictEntry} {phr : List (Str × Str)} : e.key = .str x t → e.val = .str y u → EsIs es phr → EsIs (e :: es) ((x, y) :: phr)
theorem EsIs.pairs {P : Program} {w : World} : ∀ {es : List DictEntry} {phr : List (Str × Str)}, EsIs es phr → ∃ vs : List (Key × Value), Pairs (mixKind P w) es vs ∧ KV (phrK phr) vs ∧ vs.map (·.1) = phr.map fun p => (Sum.inr p.1 : Key)
  | _, _, .nil => ⟨[], .nil, .nil, rfl⟩
  | _, _, .cons (e := e) (x := x) (y := y) (t := t) (u := u) hk hv r => by
    obtain ⟨vs, h1, h2, h3⟩ := EsIs.pairs r
    refine ⟨(.inr x, e.val) :: vs, .cons ?_ rfl h1, .cons ⟨rfl, ?_⟩ h2, ?_⟩
    · rw [hk]; exact keyIs_str x t
    · rw [hv]; exact ⟨u, rfl⟩
    · rw [List.map_cons, List.map_cons, h3]
theorem inr_nodup : ∀ {l : List Str}, l.Nodup → (l.map fun x => (Sum.inr x : Key)).Nodup
  | [], _ => List.nodup_nil
  | x :: l, h => by
    rw [List.map_cons, List.nodup_cons]
    obtain ⟨h1, h2⟩ := List.nodup_cons.mp h
    refine ⟨fun z => ?_, inr_nodup h2⟩
    obtain ⟨y, hy, e⟩ := List.mem_map.mp z
    cases e
    exact h1 hy
section
variable {X : Cx}
theorem call_dictK : CallR X (.type "dict") (fun xs H Q => ∃ (a : Addr) (es : Array DictEntry) (n : Nat) (phr : List (Str × Str)), xs = [.ref a] ∧ KDict X.K X.w a es n ∧ EsIs es.toList phr ∧ (phr.map (·.1)).Nodup ∧ phr.length ≤ sizeLine ∧ ∀ p, H p = none → Q (.ref p) (upd H p (.dK (phrK phr)))) := by
  intro pins s σ H xs us Q I r q
  obtain ⟨a, es, n, phr, ex, D, he, hn, hz, q⟩ := q
  subst ex
  obtain ⟨u, eu, rx⟩ := vals1 r
  subst eu
  cases rx
  obtain ⟨vs, hp, hkv, hks⟩ := EsIs.pairs (P := X.prog) (w := X.w) he
  have dd : s.heap.DictOf (mixKind X.prog X.w) a vs := ⟨_, es, n, I.kIn _ _ D.at_, ⟨rfl, rfl, rfl⟩, rfl, fun e he => by
    obtain ⟨x, t, e1, e2⟩ := D.lit.all e (Array.mem_toList_iff.mpr he)
    exact ⟨.inr x, by rw [e1]; exact keyIs_str x t, e2⟩, hp, by rw [hks]; have := inr_nodup hn; rwa [List.map_map] at this⟩
  have lv : vs.length = phr.length := by have := congrArg List.length hks; rwa [List.length_map, List.length_map] at this
  refine kt_call_dict D.low dd (by rw [lv]; exact hz) fun h' d' hs => ?_
  have hm : (s.heap.objs.size == sysModules) = false := beq_eq_false_iff_ne.mpr (Nat.ne_of_gt I.big)
  exact ⟨.ref s.heap.objs.size, upd H s.heap.objs.size (.dK (phrK phr)), I.laid (t' := s.toks) (fun b u e => (hs.2 b (Nat.ne_of_lt (Heap.lt_size e))).trans (Heap.get?_push_of_some _ e)) (Nat.le_refl _)
    (show ObjOk X.prog X.w _ _ _ (.dK (phrK phr)) from ⟨by unfold phrK; rw [List.length_map]; exact hz, hm, vs, hkv, d'⟩), rfl, q _ (I.hok.fresh (Nat.le_refl _))⟩
end
end IdL
namespace IdL
open PySem L2 TL
/-! ### blocks: the stack and the jumps -/
inductive PairsAt (H : Hp) : List Addr → List (Int × Int) → Prop
  | nil : PairsAt H [] []
  | cons {a : Addr} {p : Int × Int} {as : List Addr} {ps : List (Int × Int)} : H a = some (.tup [.int p.1, .int p.2]) → PairsAt H as ps → PairsAt H (a :: as) (p :: ps)
theorem PairsAt.keep {H H' : Hp} : ∀ {as : List Addr} {ps : List (Int × Int)}, PairsAt H as ps → (∀ a xs, H a = some (.tup xs) → H' a = some (.tup xs)) → PairsAt H' as ps
  | _, _, .nil, _ => .nil
  | _, _, .cons h t, k => .cons (k _ _ h) (t.keep k)
theorem PairsAt.snoc {H : Hp} {b : Addr} {p : Int × Int} (e : H b = some (.tup [.int p.1, .int p.2])) : ∀ {as : List Addr} {ps : List (Int × Int)}, PairsAt H as ps → PairsAt H (as ++ [b]) (ps ++ [p])
  | _, _, .nil => .cons e .nil
  | _, _, .cons h t => .cons h (t.snoc e)
theorem PairsAt.len {H : Hp} : ∀ {as : List Addr} {ps : List (Int × Int)}, PairsAt H as ps → as.length = ps.length
  | _, _, .nil => rfl
  | _, _, .cons _ t => by rw [List.length_cons, List.length_cons, t.len]
theorem PairsAt.last {H : Hp} : ∀ {ps : List (Int × Int)} {as : List Addr} {p : Int × Int}, PairsAt H as (ps ++ [p]) → ∃ as' a, as = as' ++ [a] ∧ PairsAt H as' ps ∧ H a = some (.tup [.int p.1, .int p.2])
  | [], _, p, .cons (a := a) h t => by cases t; exact ⟨[], a, rfl, .nil, h⟩
  | q :: ps, _, p, .cons (a := a) h t => by
    obtain ⟨as', b, rfl, t', hb⟩ := t.last
    exact ⟨a :: as', b, rfl, .cons h t', hb⟩
/-- a stack of pairs stands at s -/
def StkAt (H : Hp) (s : Addr) (ps : List (Int × Int)) : Prop := ∃ as : List Addr, H s = some (.lst (as.map V.ref)) ∧ PairsAt H as ps
/-- all that stood stands, but two -/
def But2 (s j : Addr) (H H' : Hp) : Prop := ∀ a o, a ≠ s → a ≠ j → H a = some o → H' a = some o
def sElse : Str := "else"
def sEnd : Str := "end"
def closeM (el : Bool) (line : Int) (stk : List (Int × Int)) (jmp : List (Key × V)) : Option (List (Int × Int) × List (Key × V)) :=
  match stk.getLast? with
  | none => none
  | some p => if el = true then (if p.2 = 0 then some (stk.dropLast ++ [(p.1, line)], putK jmp (.inl p.1) (.int (line + 1))) else none)
    else some (stk.dropLast, putK jmp (.inl (if p.2 = 0 then p.1 else p.2)) (.int line))
abbrev sClose : Stmt := top 40
theorem scClose : FnScope ["form", "line", "stack", "jumps", "start", "middle"] ["form", "line", "stack", "jumps"] (defScope sClose) := ⟨rfl, rfl, rfl, by decide +kernel, rfl, by decide +kernel, by decide +kernel⟩
def oneD (x : Str) : PyData := .tuple [.str x]
def spClose (K : PySem.W.Frag) : Sp := fun vs H Q _ => ∃ (fa : V) (line : Int) (sa jd : Addr) (el : Bool) (stk : List (Int × Int)) (jmp : List (Key × V)), vs = [fa, .int line, .ref sa, .ref jd] ∧ TD K H fa (oneD (if el = true then sElse else sEnd)) ∧ StkAt H sa stk ∧ H jd = some (.dK jmp) ∧ jmp.length < sizeLine ∧
  (closeM el line stk jmp = none → ∀ H', Same H H' → Q (.bl false) H') ∧ (∀ stk' jmp' H', closeM el line stk jmp = some (stk', jmp') → But2 sa jd H H' → StkAt H' sa stk' → H' jd = some (.dK jmp') → Q (.bl true) H')
section
variable {P : Program} {w : World} {K : PySem.W.Frag} {mg : Str → Option Value} {base : Heap}
theorem ok_close {f : Addr} {fd : FuncData} (F : Fun K "close_block" "close_block" sClose f fd) : FnOk P w K mg base CX0 1 f fd ["form", "line", "stack", "jumps"] (spClose K) := by
  refine F.ok scClose (fun vs H Q E h => ?_) (fun cdv A outer s H vs Q E hr h => ?_)
  · obtain ⟨fa, line, sa, jd, el, stk, jmp, rfl, _⟩ := h
    rfl
  · obtain ⟨fa, line, sa, jd, el, stk, jmp, rfl, tf, ⟨as, hsa, R⟩, hjd, jl, kn, ks⟩ := h
    have hu := hu_of hr
    have nsj : sa ≠ jd := fun y => by rw [y, hjd] at hsa; cases hsa
    refine ⟨_, pss_cons (ps_if (pt_not (pt_truth (pv 2) (by intro _; rfl))) (pss_one (ps_ret pe_bl)) pss_nil)
      (pss_cons (ps_asg (pe_ix ix_list (pv 2) (pe_un un_neg pe_int) (fun _ _ => rfl)) (pg_tup rfl (pgs_cons (pg_name (i := 4) scClose.nd rfl (.inl rfl)) (pgs_cons (pg_name (i := 5) scClose.nd rfl (.inl rfl)) pgs_nil))))
      (pss_cons (ps_if (pt_cmpR (op_eqD hr.units) (pv 0) (pe_tup (pa_cons pe_str pa_nil)) (nomark _))
        (pss_cons (ps_if (pt_cmpR op_ne (pv 5) pe_int (nomark _)) (pss_one (ps_ret pe_bl)) pss_nil)
        (pss_cons (ps_dput hu (pv 3) (pv 4) (pe_op op_add (pv 1) pe_int) rfl)
        (pss_cons (ps_asg (pe_tup (pa_cons (pv 4) (pa_cons (pv 1) pa_nil))) (pg_sub (pv 2) (pe_un un_neg pe_int) set_list))
        (pss_one (ps_ret pe_bl))))) pss_nil)
      (pss_cons (ps_dput hu (pv 3) (pe_ifExp (pt_cmpR op_eq (pv 5) pe_int (nomark _)) (pv 4) (pv 5)) (pv 1) rfl)
      (pss_cons (ps_expr (pe_bm0 PySem.F.plainAttrs_list PySem.F.slot_list_pop PySem.F.type_list_pop mt_pop (pv 2)))
      (pss_one (ps_ret pe_bl)))))), ?_⟩
    refine ⟨_, rfl, !(as.map V.ref).isEmpty, .inl ⟨_, SqL.of hsa, rfl⟩, ?_⟩
    rcases List.eq_nil_or_concat stk with e0 | ⟨ps, p, e0⟩
    · subst e0
      cases R
      exact iteT (kn rfl _ (Same.refl H))
    · rw [List.concat_eq_append] at e0
      subst e0
      obtain ⟨as', a, rfl, R', ha⟩ := R.last
      have em : closeM el line (ps ++ [p]) jmp = if el = true then (if p.2 = 0 then some (ps ++ [(p.1, line)], putK jmp (.inl p.1) (.int (line + 1))) else none)
          else some (ps, putK jmp (.inl (if p.2 = 0 then p.1 else p.2)) (.int line)) := by
        unfold closeM
        rw [List.getLast?_append, List.dropLast_concat]; rfl
      have ene : (!((as' ++ [a]).map V.ref).isEmpty) = true := by rw [List.map_append]; cases as' <;> rfl
      rw [ene]
      refine iteF ?_
      have alast : atI ((as' ++ [a]).map V.ref) (-1) = some (.ref a) := by rw [List.map_append]; exact atI_last _ _
      refine ⟨_, rfl, _, rfl, sa, _, _, .ref a, rfl, rfl, SqL.of hsa, alast, a, _, rfl, SqT.of ha, rfl, _, _, rfl, _, _, rfl, rfl, ?_⟩
      refine ⟨_, rfl, (by show 1 ≤ sizeLine; decide), fun t ht => ?_⟩
      have s1 : Same H _ := same_new (o := .tup [.str sElse]) ht
      have t1 : upd H t (.tup [.str sElse]) t = some (.tup [.str sElse]) := upd_same
      show rEqD _ _ _ (upd H t (.tup [.str sElse])) _
      generalize upd H t (.tup [.str sElse]) = H1 at *
      have hsa1 := s1 _ _ hsa
      have hjd1 := s1 _ _ hjd
      have R1 := R'.keep fun b xs e => s1 b _ e
      refine ⟨_, _, (tf.keep (KeepT.of s1)).dp, .tup (SqT.of t1) (.cons (.str _) .nil), (by cases el <;> decide +kernel), (by decide +kernel), _, rfl, ?_⟩
      cases el with
      | true =>
        refine iteT ?_
        rw [if_pos rfl] at em
        refine ⟨_, rfl, rfl, _, rfl, ?_⟩
        rw [dec_i]
        by_cases h0 : p.2 = 0
        · rw [if_pos h0] at em
          refine iteNS h0 ?_
          refine ⟨_, rfl, _, _, rfl, rfl, _, rfl, _, rfl, jd, _, rfl, DPut.k (k := Sum.inl p.1) hjd1 jl, ?_⟩
          have hj2 : upd H1 jd (.dK (putK jmp (.inl p.1) (.int (line + 1)))) jd = some (.dK (putK jmp (.inl p.1) (.int (line + 1)))) := upd_same
          have b2 : ∀ c o, c ≠ jd → H1 c = some o → upd H1 jd (.dK (putK jmp (.inl p.1) (.int (line + 1)))) c = some o := fun c o n e => by rw [upd_ne n]; exact e
          generalize upd H1 jd (.dK (putK jmp (.inl p.1) (.int (line + 1)))) = H2 at *
          have hsa2 := b2 _ _ nsj hsa1
          refine ⟨_, rfl, _, rfl, (by show 2 ≤ sizeLine; decide), fun T hT => ?_⟩
          have s3 : Same H2 _ := same_new (o := .tup [.int p.1, .int line]) hT
          have t3 : upd H2 T (.tup [.int p.1, .int line]) T = some (.tup [.int p.1, .int line]) := upd_same
          show (fun v => gSub _ _ _ v _ (upd H2 T (.tup [.int p.1, .int line])) _) _
          generalize upd H2 T (.tup [.int p.1, .int line]) = H3 at *
          have hsa3 := s3 _ _ hsa2
          refine ⟨_, rfl, _, rfl, sa, _, _, as'.length, rfl, rfl, hsa3, ?_, ?_⟩
          · unfold ixN
            rw [List.length_map, List.length_append]
            show (if (0 : Int) ≤ -1 then _ else if -((as'.length + 1 : Nat) : Int) ≤ -1 then some (-1 + ((as'.length + 1 : Nat) : Int)).toNat else none) = _
            rw [if_neg (by decide), if_pos (by omega)]
            congr 1
            omega
          · have e3 : ((as' ++ [a]).map V.ref).set as'.length (.ref T) = (as' ++ [T]).map V.ref := by
              rw [List.map_append, List.map_append, List.set_append_right _ _ (by rw [List.length_map]; exact Nat.le_refl _), List.length_map, Nat.sub_self]; rfl
            rw [e3]
            refine ks _ _ _ em (fun c o n1 n2 e => ?_) ⟨_, upd_same, PairsAt.snoc (p := (p.1, line)) ?_ (R1.keep fun b xs e => ?_)⟩ ?_
            · rw [upd_ne n1]; exact s3 _ _ (b2 _ _ n2 (s1 _ _ e))
            · rw [upd_ne (fun y => by rw [y, hsa3] at t3; cases t3)]; exact t3
            · rw [upd_ne (fun y => by rw [y, hsa1] at e; cases e)]; exact s3 _ _ (b2 _ _ (fun y => by rw [y, hjd1] at e; cases e) e)
            · rw [upd_ne nsj.symm]; exact s3 _ _ hj2
        · rw [if_neg h0] at em
          exact iteNN h0 (kn em _ s1)
      | false =>
        refine iteF ?_
        rw [if_neg Bool.false_ne_true] at em
        refine ⟨_, rfl, _, rfl, _, rfl, rfl, _, rfl, ?_⟩
        have pop : ∀ kx, closeM false line (ps ++ [p]) jmp = some (ps, putK jmp (.inl kx) (.int line)) →
            (upd H1 jd (.dK (putK jmp (.inl kx) (.int line)))) sa = some (.lst ((as' ++ [a]).map V.ref)) ∧ Q (.bl true) (upd (upd H1 jd (.dK (putK jmp (.inl kx) (.int line)))) sa (.lst ((as' ++ [a]).map V.ref).dropLast)) := fun kx e => by
          have hsa2 : upd H1 jd (.dK (putK jmp (.inl kx) (.int line))) sa = some (.lst ((as' ++ [a]).map V.ref)) := by rw [upd_ne nsj]; exact hsa1
          refine ⟨hsa2, ks _ _ _ e (fun c o n1 n2 e => ?_) ⟨as', ?_, R1.keep fun b xs e => ?_⟩ ?_⟩
          · rw [upd_ne n1, upd_ne n2]; exact s1 _ _ e
          · rw [upd_same, List.map_append]; exact congrArg (fun l => some (HO.lst l)) (List.dropLast_concat ..)
          · rw [upd_ne (fun y => by rw [y, hsa1] at e; cases e), upd_ne (fun y => by rw [y, hjd1] at e; cases e)]; exact e
          · rw [upd_ne nsj.symm, upd_same]
        have elast : ((as' ++ [a]).map V.ref)[((as' ++ [a]).map V.ref).length - 1]? = some (.ref a) := by
          rw [List.map_append, List.length_append]
          show (as'.map V.ref ++ [V.ref a])[(as'.map V.ref).length + 1 - 1]? = _
          rw [Nat.add_sub_cancel, List.getElem?_append_right (Nat.le_refl _), Nat.sub_self]; rfl
        rw [dec_i]
        by_cases h0 : p.2 = 0
        · rw [if_pos h0] at em
          obtain ⟨p1, p2⟩ := pop _ em
          exact iteY h0 ⟨_, rfl, jd, _, rfl, DPut.k (k := Sum.inl p.1) hjd1 jl, _, rfl, .inl ⟨rfl, _, SqL.of p1⟩, sa, _, _, rfl, rfl, p1, elast, p2⟩
        · rw [if_neg h0] at em
          obtain ⟨p1, p2⟩ := pop _ em
          exact iteN h0 ⟨_, rfl, jd, _, rfl, DPut.k (k := Sum.inl p.2) hjd1 jl, _, rfl, .inl ⟨rfl, _, SqL.of p1⟩, sa, _, _, rfl, rfl, p1, elast, p2⟩
end
end IdL
namespace IdL
open PySem L2 TL
/-- a reader of lines: what it reads words to -/
def spRead (K : PySem.W.Frag) (rd : List Str → PyData) : Sp := fun vs H Q _ => ∃ (wl : Addr) (ws : List Str), vs = [.ref wl] ∧ ws ≠ [] ∧ SqL K H wl (ws.map V.str) ∧ Plain ws ∧
  ∀ v H', Same H H' → TD K H' v (rd ws) → Q v H'
def headW : PyData → Str
  | .tuple (.str w :: _) => w
  | _ => ""
/-- what a reader may read words to -/
def ReadOk (d : PyData) : Prop := d = .none ∨ ∃ (w : Str) (r : List PyData), d = .tuple (.str w :: r) ∧ (w = sElse ∨ w = sEnd → r = [])
def rowD (rd : List Str → PyData) (row : Str) : PyData := if ("" : Str) ∈ Txt.split row " " then .none else rd (Txt.split row " ")
def formsGo (rd : List Str → PyData) : List Str → Nat → List PyData → List (Int × Int) → List (Key × V) → Except Nat (List PyData × List (Key × V))
  | [], i, fs, stk, jmp => if stk.isEmpty = true then .ok (fs, jmp) else .error (i + 1)
  | row :: rows, i, fs, stk, jmp => if isNoneD (rowD rd row) = true then .error (i + 1) else
    if headW (rowD rd row) = "if" then formsGo rd rows (i + 1) (fs ++ [rowD rd row]) (stk ++ [((i : Int) + 1, 0)]) jmp
    else if headW (rowD rd row) = sElse ∨ headW (rowD rd row) = sEnd then
      match closeM (decide (headW (rowD rd row) = sElse)) ((i : Int) + 1) stk jmp with
      | none => .error (i + 1)
      | some q => formsGo rd rows (i + 1) (fs ++ [rowD rd row]) q.1 q.2
    else formsGo rd rows (i + 1) (fs ++ [rowD rd row]) stk jmp
theorem formsGo_cons (rd : List Str → PyData) (row : Str) (rows : List Str) (i : Nat) (fs : List PyData) (stk : List (Int × Int)) (jmp : List (Key × V)) : formsGo rd (row :: rows) i fs stk jmp = if isNoneD (rowD rd row) = true then .error (i + 1) else
    if headW (rowD rd row) = "if" then formsGo rd rows (i + 1) (fs ++ [rowD rd row]) (stk ++ [((i : Int) + 1, 0)]) jmp
    else if headW (rowD rd row) = sElse ∨ headW (rowD rd row) = sEnd then
      match closeM (decide (headW (rowD rd row) = sElse)) ((i : Int) + 1) stk jmp with
      | none => .error (i + 1)
      | some q => formsGo rd rows (i + 1) (fs ++ [rowD rd row]) q.1 q.2
    else formsGo rd rows (i + 1) (fs ++ [rowD rd row]) stk jmp := rfl
/-! ### a row's words are plain -/
theorem spl_sum (S : List Nat) : ∀ (l : List Nat) (k : Nat) (acc : List Nat), ((spl S k acc l).map List.length).sum + (spl S k acc l).length ≤ acc.length + l.length + 1
  | [], k, acc => by rw [spl_nil]; simp
  | c :: r, 0, acc => by
    cases h : pre S (c :: r) with
    | true =>
      rw [spl_hit h]
      have := spl_sum S r (S.length - 1) []
      simp only [List.map_cons, List.sum_cons, List.length_cons, List.length_nil] at this ⊢
      omega
    | false =>
      rw [spl_miss h]
      have := spl_sum S r 0 (acc ++ [c])
      simp only [List.length_append, List.length_cons, List.length_nil] at this ⊢
      omega
  | c :: r, k + 1, acc => by
    have e : spl S (k + 1) acc (c :: r) = spl S k acc r := rfl
    rw [e]
    have := spl_sum S r k acc
    simp only [List.length_cons] at this ⊢
    omega
theorem spl_mem (S : List Nat) : ∀ (l : List Nat) (k : Nat) (acc : List Nat), ∀ p ∈ spl S k acc l, ∀ c ∈ p, c ∈ acc ∨ c ∈ l
  | [], k, acc, p, hp, c, hc => by
    rw [spl_nil] at hp
    rw [List.mem_singleton.mp hp] at hc
    exact .inl hc
  | d :: r, 0, acc, p, hp, c, hc => by
    cases h : pre S (d :: r) with
    | true =>
      rw [spl_hit h] at hp
      rcases List.mem_cons.mp hp with e | hp
      · rw [e] at hc; exact .inl hc
      · rcases spl_mem S r _ [] p hp c hc with h | h
        · cases h
        · exact .inr (List.mem_cons_of_mem _ h)
    | false =>
      rw [spl_miss h] at hp
      rcases spl_mem S r 0 _ p hp c hc with h | h
      · rcases List.mem_append.mp h with h | h
        · exact .inl h
        · rw [List.mem_singleton.mp h]; exact .inr (List.mem_cons_self ..)
      · exact .inr (List.mem_cons_of_mem _ h)
  | d :: r, k + 1, acc, p, hp, c, hc => by
    have e : spl S (k + 1) acc (d :: r) = spl S k acc r := rfl
    rw [e] at hp
    rcases spl_mem S r k acc p hp c hc with h | h
    · exact .inl h
    · exact .inr (List.mem_cons_of_mem _ h)
theorem blank_ne : tl (" " : Str) ≠ [] := by decide +kernel
theorem split_blank (row : Str) : (Txt.split row " ").map tl = spl (tl " ") 0 [] (tl row) := split_spl row " " blank_ne (kind_ok (by decide +kernel))
theorem row_plain {row : Str} (a : Asc row) (h : row.length ≤ 900000) : Plain (Txt.split row " ") := by
  have e := split_blank row
  refine ⟨fun z hz c hc => ?_, ?_⟩
  · have hm : tl z ∈ (Txt.split row " ").map tl := List.mem_map_of_mem hz
    rw [e] at hm
    rcases spl_mem _ _ _ _ _ hm c hc with h | h
    · cases h
    · exact a c h
  · have h1 : (Txt.split row " ").map (·.length) = ((Txt.split row " ").map tl).map List.length := by
      rw [List.map_map]
      exact List.map_congr_left fun z _ => len_tl z
    have h2 : (Txt.split row " ").length = ((Txt.split row " ").map tl).length := by rw [List.length_map]
    rw [h1, h2, e]
    have := spl_sum (tl " ") (tl row) 0 []
    rw [len_tl] at h
    simp only [List.length_nil] at this
    omega
theorem spl_ne (S : List Nat) : ∀ (l : List Nat) (k : Nat) (acc : List Nat), spl S k acc l ≠ []
  | [], k, acc => by rw [spl_nil]; exact List.cons_ne_nil _ _
  | c :: r, 0, acc => by
    cases h : pre S (c :: r) with
    | true => rw [spl_hit h]; exact List.cons_ne_nil _ _
    | false => rw [spl_miss h]; exact spl_ne S r _ _
  | c :: r, k + 1, acc => spl_ne S r k acc
theorem row_ne (row : Str) : Txt.split row " " ≠ [] := fun z => by
  have e := split_blank row
  rw [z] at e
  exact spl_ne _ _ _ _ e.symm
/-- an error class, as read and as built -/
structure BErr (P : Program) (K : PySem.W.Frag) (mg : Str → Option Value) (x qual : Str) (st : Stmt) (fs : List Str) (C fI : Addr) : Prop where
  T : Er.Txt P K C fI qual st fs
  F : Er.Form st fs
  g : mg x = some (.ref C)
abbrev stLine : Stmt := inClass (top 21) 0
end IdL
namespace IdL
open PySem L2 TL
def KTup (K : PySem.W.Frag) (a : Addr) (xs : List V) : Prop := ∃ (o : Obj) (its : Array Value) (n : Nat), K.lookup a = some o ∧ o.cls = .type "tuple" ∧ o.data = .seq its n ∧ its.size ≤ sizeLine ∧ Vals xs its.toList
theorem KTup.sq {K : PySem.W.Frag} {a : Addr} {xs : List V} (h : KTup K a xs) {H : Hp} : SqT K H a xs := .inr h
theorem TD.isN {K : PySem.W.Frag} {H : Hp} {v : V} {d : PyData} (h : TD K H v d) : v = .non ↔ isNoneD d = true := by
  cases h with
  | non => exact ⟨fun _ => rfl, fun _ => rfl⟩
  | bl b => exact ⟨(fun y => nomatch y), (fun y => nomatch y)⟩
  | int b => exact ⟨(fun y => nomatch y), (fun y => nomatch y)⟩
  | str b => exact ⟨(fun y => nomatch y), (fun y => nomatch y)⟩
  | tup a b => exact ⟨(fun y => nomatch y), (fun y => nomatch y)⟩
theorem isNoneD_eq {d : PyData} (h : isNoneD d = true) : d = .none := by cases d <;> first | rfl | cases h
theorem TDs.get {K : PySem.W.Frag} {H : Hp} : ∀ {vs : List V} {ds : List PyData} (t : TDs K H vs ds) (i : Nat) {v : V}, vs[i]? = some v → ∃ d, ds[i]? = some d ∧ TD K H v d
  | _, _, .cons h t, 0, v, e => by cases e; exact ⟨_, rfl, h⟩
  | _, _, .cons h t, i + 1, v, e => TDs.get t i e
theorem TD.tupl {K : PySem.W.Frag} {H : Hp} {v : V} {ds : List PyData} (h : TD K H v (.tuple ds)) : ∃ a xs, v = .ref a ∧ SqT K H a xs ∧ TDs K H xs ds := by
  cases h with
  | tup a b => exact ⟨_, _, rfl, a, b⟩
theorem at_0 (x : Str) (r : List Str) : atI ((x :: r).map V.str) 0 = some (.str x) := atI_nat (j := 0) rfl
theorem cut_1 {H : Hp} {p : Addr} {x : Str} {r : List Str} : upd H p (.lst (cutV ((x :: r).map V.str) (some 1) none)) p = some (.lst (r.map V.str)) := by
  rw [upd_same, show cutV ((x :: r).map V.str) (some 1) none = ((x :: r).map V.str).drop 1 from cut_from _ 1]
  rfl
theorem cut_2 {H : Hp} {p : Addr} {x e : Str} {r : List Str} : upd H p (.lst (cutV ((x :: e :: r).map V.str) (some 2) none)) p = some (.lst (r.map V.str)) := by
  rw [upd_same, show cutV ((x :: e :: r).map V.str) (some 2) none = ((x :: e :: r).map V.str).drop 2 from cut_from _ 2]
  rfl
end IdL
namespace IdL
open PySem L2 TL
theorem at_hd (x : V) (r : List V) : atI (x :: r) 0 = some x := atI_nat (j := 0) rfl
def sBlk : List Str := [sElse, sEnd]
theorem close_len {el : Bool} {line : Int} {stk stk' : List (Int × Int)} {jmp jmp' : List (Key × V)} (h : closeM el line stk jmp = some (stk', jmp')) : stk'.length ≤ stk.length ∧ jmp'.length ≤ jmp.length + 1 := by
  unfold closeM at h
  cases e : stk.getLast? with
  | none => rw [e] at h; cases h
  | some p =>
    rw [e] at h
    have ne : stk ≠ [] := fun z => by rw [z] at e; cases e
    have hl : 0 < stk.length := List.length_pos_iff.mpr ne
    dsimp only at h
    split at h
    · split at h
      · cases h
        exact ⟨by rw [List.length_append, List.length_dropLast]; simp only [List.length_cons, List.length_nil]; omega, put_len _ _ _⟩
      · cases h
    · cases h
      exact ⟨by rw [List.length_dropLast]; omega, put_len _ _ _⟩
abbrev sForms : Stmt := top 41
theorem scForms : FnScope ["rows", "read_line", "forms", "jumps", "stack", "at", "row", "words", "form"] ["rows", "read_line"] (defScope sForms) := ⟨rfl, rfl, rfl, by decide +kernel, rfl, by decide +kernel, by decide +kernel⟩
/-- a def that reads words, as it is handed on -/
structure Rdr (P : Program) (w : World) (K : PySem.W.Frag) (mg : Str → Option Value) (base : Heap) (n : Nat) (f : Addr) (rd : List Str → PyData) : Prop where
  ex : ∃ fd, FnOk P w K mg base CX0 n f fd ["words"] (spRead K rd) ∧ Binds K fd ["words"] []
  kp : PySem.W.keepIn K (.ref f) = true
  ok : ∀ ws, ReadOk (rd ws)
structure Rows (rs : List Str) : Prop where
  asc : ∀ z ∈ rs, Asc z
  len : ∀ z ∈ rs, z.length ≤ 900000
  few : rs.length ≤ 100000
def lineErr (C : Addr) (n : Nat) (H : Hp) (E : XK) : Prop := ∀ (d : Addr) (H' : Hp), Same H H' → H' d = some (.xd [("line", .int (n : Int))]) → E (.ref C) (some d) H'
structure FSpaced (K : PySem.W.Frag) (mg : Str → Option Value) (f : Addr) (d : FuncData) : Prop where
  u : Fun K "is_spaced" "is_spaced" sSpaced f d
  b : Binds K d ["words"] []
  g : mg "is_spaced" = some (.ref f)
structure FClose (K : PySem.W.Frag) (mg : Str → Option Value) (f : Addr) (d : FuncData) : Prop where
  u : Fun K "close_block" "close_block" sClose f d
  b : Binds K d ["form", "line", "stack", "jumps"] []
  g : mg "close_block" = some (.ref f)
def spForms (P : Program) (w : World) (K : PySem.W.Frag) (mg : Str → Option Value) (base : Heap) (n : Nat) (CL : Addr) : Sp := fun vs H Q E => ∃ (ra fr : Addr) (rs : List Str) (rd : List Str → PyData), vs = [.ref ra, .ref fr] ∧ SqL K H ra (rs.map V.str) ∧ Rows rs ∧ Rdr P w K mg base n fr rd ∧
  (∀ ds jmp (fa ja t : Addr) (xs : List V) (H' : Hp), formsGo rd rs 0 [] [] [] = .ok (ds, jmp) → Same H H' → H' fa = some (.lst xs) → TDs K H' xs ds → H' ja = some (.dK jmp) → H' t = some (.tup [.ref fa, .ref ja]) → Q (.ref t) H') ∧
  (∀ m, formsGo rd rs 0 [] [] [] = .error m → lineErr CL m H E)
section
variable {P : Program} {w : World} {K : PySem.W.Frag} {mg : Str → Option Value} {base : Heap}
theorem ok_forms {n : Nat} {f fS fC CL iL : Addr} {fd dS dC : FuncData} (hn : 1 ≤ n) (F : Fun K "read_forms" "read_forms" sForms f fd) (S : FSpaced K mg fS dS) (C : FClose K mg fC dC) (B : BErr P K mg "BadLine" "BadLine.__init__" stLine ["line"] CL iL) (su : mg "super" = none) (T : Glo mg) :
    FnOk P w K mg base (CX P w) (n + 1) f fd ["rows", "read_line"] (spForms P w K mg base n CL) := by
  have OS : FnOk P w K mg base CX0 1 fS dS ["words"] (spSpaced K) := ok_spaced S.u
  have OC : FnOk P w K mg base CX0 1 fC dC ["form", "line", "stack", "jumps"] (spClose K) := ok_close C.u
  refine F.okX scForms (fun vs H Q E h => ?_) (fun cdv A outer s H vs Q E hr h => ?_)
  · obtain ⟨ra, fr, rs, rd, rfl, _⟩ := h
    rfl
  · obtain ⟨ra, fr, rs, rd, rfl, hra, ro, R, kok, kerr⟩ := h
    obtain ⟨fdr, FR, bR⟩ := R.ex
    have hu := hu_of hr
    have hr1 := hr.mono hn
    refine ⟨_, pss_cons (ps_set (i := 2) scForms.nd rfl (.inl rfl) (pe_lst pa_nil))
        (pss_cons (ps_set (i := 3) scForms.nd rfl (.inl rfl) pe_dnewK)
        (pss_cons (ps_set (i := 4) scForms.nd rfl (.inl rfl) (pe_lst pa_nil))
        (pss_cons (ps_for PassesOwn.leaving rfl (pi_enum (by rfl) T.enum (pa_cons (pv 0) pa_nil)) (pg_tup rfl (pgs_cons (pg_name (i := 5) scForms.nd rfl (.inl rfl)) (pgs_cons (pg_name (i := 6) scForms.nd rfl (.inl rfl)) pgs_nil))) (pss_cons (ps_set (i := 7) scForms.nd rfl (.inl rfl) (pe_split (pv 6) pe_str))
        (pss_join (ps_set (i := 8) scForms.nd rfl (.inl rfl) (pe_ifExp (pt_val (pe_call OS hr1 rfl S.g S.u.kp S.b .nil pass0 (pa_cons (pv 7) pa_nil))) (pe_callL (i := 1) FR hr rfl (.inl rfl) R.kp bR .nil pass0 (pa_cons (pv 7) pa_nil)) pe_non))
        (pss_cons (ps_if (pt_cmpR op_isN (pv 8) pe_non (nomark _)) (pss_one (ps_raise rfl (takes_of rfl rfl rfl rfl) (pmk_err B.T B.F (by decide) B.g su hr (pa_cons (pe_op op_add (pv 5) pe_int) pa_nil)))) pss_nil)
        (pss_join (ps_if (pt_cmpR op_eq (pe_ix ix_tup (pv 8) pe_int (fun _ _ => rfl)) pe_str (nomark _)) (pss_one (ps_expr (pe_bm PySem.F.plainAttrs_list PySem.F.slot_list_append PySem.F.type_list_append mt_append (pv 4) (pa_cons (pe_tup (pa_cons (pe_op op_add (pv 5) pe_int) (pa_cons pe_int pa_nil))) pa_nil)))) (pss_one (ps_if (PW.pt (pw_and (pt_cmpR op_in_seq (pe_ix ix_tup (pv 8) pe_int (fun _ _ => rfl)) (pe_tup (pa_cons pe_str (pa_cons pe_str pa_nil))) (by rfl)) (pw_and1 (pt_not (pt_val (pe_call OC hr1 rfl C.g C.u.kp C.b .nil pass0 (pa_cons (pv 8) (pa_cons (pe_op op_add (pv 5) pe_int) (pa_cons (pv 4) (pa_cons (pv 3) pa_nil)))))))))) (pss_one (ps_raise rfl (takes_of rfl rfl rfl rfl) (pmk_err B.T B.F (by decide) B.g su hr (pa_cons (pe_op op_add (pv 5) pe_int) pa_nil)))) pss_nil)))
        (pss_one (ps_expr (pe_bm PySem.F.plainAttrs_list PySem.F.slot_list_append PySem.F.type_list_append mt_append (pv 2) (pa_cons (pv 8) pa_nil)))))))))
        (pss_cons (ps_if (pt_truth (pv 4) (by intro _; rfl)) (pss_one (ps_raise rfl (takes_of rfl rfl rfl rfl) (pmk_err B.T B.F (by decide) B.g su hr (pa_cons (pe_op op_add (pe_callB call_len_seq (by rfl) T.len PySem.boot_len (pa_cons (pv 0) pa_nil)) pe_int) pa_nil)))) pss_nil)
        (pss_one (ps_ret (pe_tup (pa_cons (pv 2) (pa_cons (pv 3) pa_nil))))))))), ?_⟩
    have flies : ∀ m, formsGo rd rs 0 [] [] [] = .error m → ∀ G, Same H G → ∀ d, G d = none → E (.ref CL) (some d) (upd G d (.xd ((["line"] : List Str).zip [V.int (m : Int)]).reverse)) := fun m e G s d hd => kerr m e d _ (s.trans (same_new hd)) upd_same
    refine ⟨Nat.zero_le _, fun fa hfa => ?_⟩
    have s1 : Same H _ := same_new (o := .lst []) hfa
    have f1 : upd H fa (.lst []) fa = some (.lst []) := upd_same
    generalize upd H fa (.lst []) = H1 at *
    intro ja hja
    have s2 : Same H1 _ := same_new (o := .dK []) hja
    have j2 : upd H1 ja (.dK []) ja = some (.dK []) := upd_same
    have f2 := s2 _ _ f1
    generalize upd H1 ja (.dK []) = H2 at *
    refine ⟨Nat.zero_le _, fun sa hsa => ?_⟩
    have s3 : Same H2 _ := same_new (o := .lst []) hsa
    have st3 : upd H2 sa (.lst []) sa = some (.lst []) := upd_same
    have f3 := s3 _ _ f2
    have j3 := s3 _ _ j2
    generalize upd H2 sa (.lst []) = H3 at *
    have s03 : Same H H3 := (s1.trans s2).trans s3
    have ja0 : H ja = none := s1.free hja
    have sa0 : H sa = none := (s1.trans s2).free hsa
    have nfj : fa ≠ ja := fun y => by rw [y, hja] at f1; cases f1
    have nfs : fa ≠ sa := fun y => by rw [y, hsa] at f2; cases f2
    have njs : ja ≠ sa := fun y => by rw [y, hsa] at j2; cases j2
    refine ⟨_, rfl, ra, _, rfl, s03.seq hra, for_it walk_enum (fun i σ G => ∃ (acc : List V) (ds : List PyData) (stk : List (Int × Int)) (jmp : List (Key × V)) (v5 v6 v7 v8 : Option V), σ = [some (.ref ra), some (.ref fr), some (.ref fa), some (.ref ja), some (.ref sa), v5, v6, v7, v8] ∧ Same H G ∧ G fa = some (.lst acc) ∧
      TDs K G acc ds ∧ acc.length = i ∧ G ja = some (.dK jmp) ∧ jmp.length ≤ i ∧ StkAt G sa stk ∧ stk.length ≤ i ∧ formsGo rd rs 0 [] [] [] = formsGo rd (rs.drop i) i ds stk jmp) ⟨[], [], [], [], none, none, none, none, rfl, s03, f3, .nil, rfl, j3, Nat.le_refl _, ⟨[], st3, .nil⟩, Nat.le_refl _, rfl⟩ (fun i σ G _ ⟨_, _, _, _, _, _, _, _, _, sG, _⟩ => sG.seq hra) ?_ ?_⟩
    · rintro i x σ G G4 hi ⟨acc, ds, stk, jmp, v5, v6, v7, v8, rfl, sG, hF, td, la, hJ, lj, hS, ls, em⟩ ⟨T0, xi, yi, rfl, hT, rfl, e1, e2⟩
      have s4 : Same G _ := same_new (o := .tup [xi, yi]) hT
      have hT4 : upd G T0 (.tup [xi, yi]) T0 = some (.tup [xi, yi]) := upd_same
      generalize upd G T0 (.tup [xi, yi]) = G4 at *
      refine ⟨T0, _, rfl, SqT.of hT4, rfl, _, _, rfl, _, _, rfl, rfl, ?_⟩
      cases e1
      rw [List.length_map] at hi
      obtain ⟨row, hz⟩ : ∃ z, rs[i]? = some z := ⟨rs[i], List.getElem?_eq_getElem hi⟩
      have e2 : (rs.map V.str)[i]? = some yi := e2
      rw [List.getElem?_map, hz] at e2
      cases e2
      have rm : row ∈ rs := List.mem_of_getElem? hz
      rw [show rs.drop i = row :: rs.drop (i + 1) from by
        obtain ⟨h1, h2⟩ := List.getElem?_eq_some_iff.mp hz
        rw [← h2]; exact List.drop_eq_getElem_cons h1, formsGo_cons] at em
      have few := ro.few
      have rl := ro.len row rm
      have rp := row_plain (ro.asc row rm) rl
      refine ⟨_, rfl, ⟨_, rfl⟩, _, _, rfl, rfl, rfl, (by rw [sizeLine_eq]; omega), fun wl hwl => ?_⟩
      have s5 : Same G4 _ := same_new (o := .lst ((Txt.split row " ").map V.str)) hwl
      have w5 : upd G4 wl (.lst ((Txt.split row " ").map V.str)) wl = some (.lst ((Txt.split row " ").map V.str)) := upd_same
      show tJoin _ _ _ _ (upd G4 wl (.lst ((Txt.split row " ").map V.str)))
      generalize upd G4 wl (.lst ((Txt.split row " ").map V.str)) = G5 at *
      refine ⟨fun τ G6 => ∃ v, τ = [some (.ref ra), some (.ref fr), some (.ref fa), some (.ref ja), some (.ref sa), some (.int (i : Int)), some (.str row), some (.ref wl), some v] ∧ Same G5 G6 ∧ TD K G6 v (rowD rd row), ?_, ?_⟩
      · refine ⟨_, rfl, wl, _, rfl, SqL.of w5, _, rfl, ?_⟩
        by_cases hb : ("" : Str) ∈ Txt.split row " "
        · refine iteNS hb ⟨_, rfl, Same.refl _, ?_⟩
          rw [show rowD rd row = .none from if_pos hb]
          exact .non
        · refine iteNN hb ⟨rfl, _, rfl, wl, _, rfl, row_ne row, SqL.of w5, rp, fun v G6 s6 t6 => ⟨v, rfl, s6, ?_⟩⟩
          rw [show rowD rd row = rd (Txt.split row " ") from if_neg hb]
          exact t6
      · rintro τ G6 ⟨v, rfl, s6, t6⟩
        have s46 : Same G G6 := (s4.trans s5).trans s6
        have sH6 : Same H G6 := sG.trans s46
        have rok : ReadOk (rowD rd row) := by
          unfold rowD
          split
          · exact .inl rfl
          · exact R.ok _
        refine ⟨_, rfl, rfl, _, rfl, ?_⟩
        rcases rok with er | ⟨hw, rest, er, hrest⟩
        · rw [er] at em t6
          refine iteY (t6.isN.mpr rfl) ?_
          have em : formsGo rd rs 0 [] [] [] = .error (i + 1) := em
          exact ⟨_, rfl, _, _, rfl, rfl, rfl, (fun z => by cases z), fun _ d hd => flies (i + 1) em G6 sH6 d hd⟩
        · have nn : isNoneD (rowD rd row) = false := by rw [er]; rfl
          rw [if_neg (by rw [nn]; exact Bool.false_ne_true), show headW (rowD rd row) = hw from by rw [er]; rfl] at em
          refine iteN (fun y => by have := t6.isN.mp y; rw [nn] at this; cases this) ?_
          have t6' := t6
          rw [er] at t6'
          obtain ⟨ta, xs, rfl, hta, txs⟩ := t6'.tupl
          have hta' : ∃ xs', xs = .str hw :: xs' := by
            cases txs with
            | cons t1 _ => cases t1; exact ⟨_, rfl⟩
          obtain ⟨xs', rfl⟩ := hta'
          have hF6 := s46 _ _ hF
          have hJ6 := s46 _ _ hJ
          obtain ⟨as, hS0, RS⟩ := hS
          have hS6 := s46 _ _ hS0
          have RS6 : PairsAt G6 as stk := RS.keep fun a xs e => s46 _ _ e
          have td6 := td.keep (KeepT.of s46)
          have flies' : formsGo rd rs 0 [] [] [] = .error (i + 1) → ∀ G', Same H G' → ∀ d, G' d = none → E (.ref CL) (some d) (upd G' d (.xd ((["line"] : List Str).zip [V.int ((i : Int) + 1)]).reverse)) := fun e G' s d hd => flies (i + 1) e G' s d hd
          refine ⟨fun τ G7 => ∃ (stk' : List (Int × Int)) (jmp' : List (Key × V)), τ = [some (.ref ra), some (.ref fr), some (.ref fa), some (.ref ja), some (.ref sa), some (.int (i : Int)), some (.str row), some (.ref wl), some (.ref ta)] ∧ Same H G7 ∧ G7 fa = some (.lst acc) ∧ TDs K G7 acc ds ∧ TD K G7 (.ref ta) (rowD rd row) ∧
            G7 ja = some (.dK jmp') ∧ jmp'.length ≤ i + 1 ∧ StkAt G7 sa stk' ∧ stk'.length ≤ i + 1 ∧ formsGo rd rs 0 [] [] [] = formsGo rd (rs.drop (i + 1)) (i + 1) (ds ++ [rowD rd row]) stk' jmp', ?_, ?_⟩
          · refine ⟨_, rfl, ta, _, _, .str hw, rfl, rfl, hta, at_hd _ _, rfl, _, rfl, ?_⟩
            rw [dec_str]
            by_cases hif : hw = "if"
            · rw [if_pos hif] at em
              refine iteY hif ⟨_, rfl, .inl ⟨rfl, _, SqL.of hS6⟩, _, rfl, _, _, rfl, rfl, (by show 2 ≤ sizeLine; decide), fun T hT => ?_⟩
              have s7 : Same G6 _ := same_new (o := .tup [.int ((i : Int) + 1), .int 0]) hT
              have t7 : upd G6 T (.tup [.int ((i : Int) + 1), .int 0]) T = some (.tup [.int ((i : Int) + 1), .int 0]) := upd_same
              generalize upd G6 T (.tup [.int ((i : Int) + 1), .int 0]) = G7 at *
              have hS7 := s7 _ _ hS6
              have k8 : KeepT G7 (upd G7 sa (.lst (as.map V.ref ++ [.ref T]))) := KeepT.lst hS7
              have k68 := (KeepT.of s7).trans k8
              refine ⟨sa, _, _, rfl, rfl, hS7, (by rw [List.length_map, RS.len, sizeLine_eq]; omega), ?_⟩
              refine ⟨stk ++ [((i : Int) + 1, 0)], jmp, rfl, fun c o e => ?_, ?_, td6.keep k68, t6.keep k68, ?_, by omega, ⟨as ++ [T], ?_, PairsAt.snoc (p := ((i : Int) + 1, 0)) ?_ (RS6.keep fun a xs e => ?_)⟩, ?_, em⟩
              · rw [upd_ne (fun y => by rw [y, sa0] at e; cases e)]; exact s7 _ _ (sH6 _ _ e)
              · rw [upd_ne nfs]; exact s7 _ _ hF6
              · rw [upd_ne njs]; exact s7 _ _ hJ6
              · rw [upd_same, List.map_append]; rfl
              · rw [upd_ne (fun y => by rw [y, hS7] at t7; cases t7)]; exact t7
              · rw [upd_ne (fun y => by rw [y, hS6] at e; cases e)]; exact s7 _ _ e
              · rw [List.length_append]; simp only [List.length_cons, List.length_nil]; omega
            rw [if_neg hif] at em
            refine iteN hif ?_
            refine ⟨_, rfl, ta, _, _, .str hw, rfl, rfl, hta, at_hd _ _, (by show 2 ≤ sizeLine; decide), fun T hT => ?_⟩
            have s7 : Same G6 _ := same_new (o := .tup (sBlk.map V.str)) hT
            have t7 : upd G6 T (.tup (sBlk.map V.str)) T = some (.tup (sBlk.map V.str)) := upd_same
            show rIn _ _ _ _ (upd G6 T (.tup (sBlk.map V.str))) _
            generalize upd G6 T (.tup (sBlk.map V.str)) = G7 at *
            have hS7 := s7 _ _ hS6
            have hJ7 := s7 _ _ hJ6
            have hF7 := s7 _ _ hF6
            have sH7 := sH6.trans s7
            have td7 := td6.keep (KeepT.of s7)
            have t67 := t6.keep (KeepT.of s7)
            have RS7 : PairsAt G7 as stk := RS6.keep fun a xs e => s7 _ _ e
            refine ⟨T, _, rfl, .inr (SqT.of t7), rfl, flat_strs sBlk, _, rfl, ?_⟩
            rw [in_strs]
            by_cases hblk : hw ∈ sBlk
            · have hb2 : hw = sElse ∨ hw = sEnd := by
                rcases List.mem_cons.mp hblk with h | h
                · exact .inl h
                · exact .inr (List.mem_singleton.mp h)
              rw [if_pos hb2] at em
              have er1 : rowD rd row = oneD (if decide (hw = sElse) = true then sElse else sEnd) := by
                rw [er, hrest hb2]
                rcases hb2 with h | h
                · rw [h, decide_eq_true rfl, if_pos rfl]; rfl
                · rw [h, decide_eq_false (by decide +kernel), if_neg Bool.false_ne_true]; rfl
              refine iteY hblk ⟨_, rfl, _, rfl, _, _, rfl, rfl, _, rfl, _, rfl, _, (i : Int) + 1, sa, ja, decide (hw = sElse), stk, jmp, rfl, er1 ▸ t67, ⟨as, hS7, RS7⟩, hJ7, (by rw [sizeLine_eq]; omega), fun e G8 s8 => ?_, fun stk' jmp' G8 e b8 S8 J8 => ?_⟩
              · rw [e] at em
                exact ⟨_, rfl, iteT ⟨_, rfl, _, _, rfl, rfl, rfl, (fun z => by cases z), fun _ d hd => flies' em G8 (sH7.trans s8) d hd⟩⟩
              · rw [e] at em
                have cl := close_len e
                refine ⟨_, rfl, iteF ⟨stk', jmp', rfl, fun c o e => b8 c o (fun y => by rw [y, sa0] at e; cases e) (fun y => by rw [y, ja0] at e; cases e) (sH7 _ _ e), b8 _ _ nfs nfj hF7, ?_, ?_, J8, by omega, S8, by omega, em⟩⟩
                · refine td7.keep fun a xs h => ?_
                  have n1 : a ≠ sa := fun y => by subst y; rcases h with h | ⟨_, h⟩ <;> rw [hS7] at h <;> cases h
                  have n2 : a ≠ ja := fun y => by subst y; rcases h with h | ⟨_, h⟩ <;> rw [hJ7] at h <;> cases h
                  exact h.imp (b8 _ _ n1 n2) fun ⟨o, h⟩ => ⟨o, b8 _ _ n1 n2 h⟩
                · refine t67.keep fun a xs h => ?_
                  have n1 : a ≠ sa := fun y => by subst y; rcases h with h | ⟨_, h⟩ <;> rw [hS7] at h <;> cases h
                  have n2 : a ≠ ja := fun y => by subst y; rcases h with h | ⟨_, h⟩ <;> rw [hJ7] at h <;> cases h
                  exact h.imp (b8 _ _ n1 n2) fun ⟨o, h⟩ => ⟨o, b8 _ _ n1 n2 h⟩
            · have hb2 : ¬ (hw = sElse ∨ hw = sEnd) := fun y => hblk (by
                rcases y with h | h
                · rw [h]; exact List.mem_cons_self ..
                · rw [h]; exact List.mem_cons_of_mem _ (List.mem_singleton.mpr rfl))
              rw [if_neg hb2] at em
              exact iteN hblk (iteF ⟨stk, jmp, rfl, sH7, hF7, td7, t67, hJ7, by omega, ⟨as, hS7, RS7⟩, by omega, em⟩)
          · rintro τ G7 ⟨stk', jmp', rfl, sH7, hF7, td7, t7, hJ7, lj', hS7, ls', em'⟩
            refine ⟨_, rfl, .inl ⟨rfl, _, SqL.of hF7⟩, _, rfl, fa, _, _, rfl, rfl, hF7, (by rw [la, sizeLine_eq]; omega), ?_⟩
            have k8 : KeepT G7 (upd G7 fa (.lst (acc ++ [.ref ta]))) := KeepT.lst hF7
            obtain ⟨as', hS7, RS7⟩ := hS7
            refine ⟨acc ++ [.ref ta], ds ++ [rowD rd row], stk', jmp', _, _, _, _, rfl, fun c o e => ?_, upd_same, TDs.snoc (t7.keep k8) (td7.keep k8), ?_, ?_, lj', ⟨as', ?_, RS7.keep fun a xs e => ?_⟩, ls', em'⟩
            · rw [upd_ne (fun y => by rw [y, hfa] at e; cases e)]; exact sH7 _ _ e
            · rw [List.length_append, la]; rfl
            · rw [upd_ne nfj.symm]; exact hJ7
            · rw [upd_ne nfs.symm]; exact hS7
            · rw [upd_ne (fun y => by rw [y, hF7] at e; cases e)]; exact e
    · rintro σ G ⟨acc, ds, stk, jmp, v5, v6, v7, v8, rfl, sG, hF, td, la, hJ, lj, ⟨as, hS, RS⟩, ls, em⟩
      rw [List.length_map, List.drop_length] at em
      refine ⟨_, rfl, !(as.map V.ref).isEmpty, .inl ⟨_, SqL.of hS, rfl⟩, ?_⟩
      cases RS with
      | nil =>
        refine iteF ?_
        refine ⟨_, rfl, _, rfl, (by show 2 ≤ sizeLine; decide), fun t ht => ?_⟩
        exact kok ds jmp fa ja t acc _ em (sG.trans (same_new ht)) (same_new ht _ _ hF) (td.keep (KeepT.of (same_new ht))) (same_new ht _ _ hJ) upd_same
      | cons h1 h2 =>
        have em : formsGo rd rs 0 [] [] [] = .error (rs.length + 1) := by rw [em]; rfl
        refine iteT ?_
        refine ⟨_, rfl, ra, _, rfl, .inl (sG.seq hra), _, _, rfl, rfl, rfl, (fun z => by cases z), fun _ d hd => ?_⟩
        rw [List.length_map]
        exact flies (rs.length + 1) em G sG d hd
end
end IdL
namespace IdL
open PySem L2 TL
/-- a form: a tuple that begins with a word -/
def HasW (d : PyData) : Prop := ∃ (w : Str) (r : List PyData), d = .tuple (.str w :: r)
theorem forms_has {rd : List Str → PyData} (ok : ∀ ws, ReadOk (rd ws)) : ∀ (rs : List Str) (i : Nat) (fs : List PyData) (stk : List (Int × Int)) (jmp : List (Key × V)) {q : List PyData × List (Key × V)}, formsGo rd rs i fs stk jmp = .ok q → (∀ d ∈ fs, HasW d) → ∀ d ∈ q.1, HasW d
  | [], i, fs, stk, jmp, q, h, hf => by
    have h : (if stk.isEmpty = true then Except.ok (fs, jmp) else Except.error (i + 1)) = Except.ok q := h
    split at h
    · cases h; exact hf
    · cases h
  | row :: rs, i, fs, stk, jmp, q, h, hf => by
    rw [formsGo_cons] at h
    have rok : ReadOk (rowD rd row) := by
      unfold rowD
      split
      · exact .inl rfl
      · exact ok _
    have hf2 : isNoneD (rowD rd row) = false → ∀ d ∈ fs ++ [rowD rd row], HasW d := fun hn d hd => by
      rcases List.mem_append.mp hd with h | h
      · exact hf d h
      · rw [List.mem_singleton.mp h]
        rcases rok with e | ⟨w, r, e, _⟩
        · rw [e] at hn; cases hn
        · exact ⟨w, r, e⟩
    split at h
    · cases h
    · rename_i hn
      have hn := Bool.eq_false_iff.mpr hn
      split at h
      · exact forms_has ok rs _ _ _ _ h (hf2 hn)
      · split at h
        · split at h
          · cases h
          · exact forms_has ok rs _ _ _ _ h (hf2 hn)
        · exact forms_has ok rs _ _ _ _ h (hf2 hn)
theorem forms_len {rd : List Str → PyData} : ∀ (rs : List Str) (i : Nat) (fs : List PyData) (stk : List (Int × Int)) (jmp : List (Key × V)) {q : List PyData × List (Key × V)}, formsGo rd rs i fs stk jmp = .ok q → q.1.length = fs.length + rs.length
  | [], i, fs, stk, jmp, q, h => by
    have h : (if stk.isEmpty = true then Except.ok (fs, jmp) else Except.error (i + 1)) = Except.ok q := h
    split at h
    · cases h; rfl
    · cases h
  | row :: rs, i, fs, stk, jmp, q, h => by
    rw [formsGo_cons] at h
    have done : ∀ stk' jmp', formsGo rd rs (i + 1) (fs ++ [rowD rd row]) stk' jmp' = .ok q → q.1.length = fs.length + (row :: rs).length := fun stk' jmp' h => by
      have := forms_len rs _ _ _ _ h
      rw [List.length_append] at this
      simp only [List.length_cons, List.length_nil] at this ⊢
      omega
    split at h
    · cases h
    · split at h
      · exact done _ _ h
      · split at h
        · split at h
          · cases h
          · exact done _ _ h
        · exact done _ _ h
def isIfD (d : PyData) : Bool := decide (headW d = "if")
/-- what becomes of a text: its rows, forms and jumps; a line that is none; too many -/
inductive CodeR
  | ok (rs : List Str) (ds : List PyData) (jmp : List (Key × V))
  | bad (n : Nat)
  | many (w : Str) (n m : Int)
def codeM (rd : List Str → PyData) (ml mi : Int) (x : Str) : CodeR := if ml < ((linesOf x).length : Int) then .many "lines" ((linesOf x).length : Int) ml else
  match formsGo rd (linesOf x) 0 [] [] [] with
  | .error n => .bad n
  | .ok q => if mi < ((q.1.filter isIfD).length : Int) then .many "ifs" ((q.1.filter isIfD).length : Int) mi else .ok (linesOf x) q.1 q.2
abbrev stMany : Stmt := inClass (top 26) 0
abbrev sCode : Stmt := top 42
theorem scCode : FnScope ["text", "read_line", "most_lines", "most_ifs", "rows", "forms", "jumps", "ifs", "form"] ["text", "read_line", "most_lines", "most_ifs"] (defScope sCode) := ⟨rfl, rfl, rfl, by decide +kernel, rfl, by decide +kernel, by decide +kernel⟩
def spCode (P : Program) (w : World) (K : PySem.W.Frag) (mg : Str → Option Value) (base : Heap) (n : Nat) (CL CT : Addr) : Sp := fun vs H Q E => ∃ (x : Str) (fr : Addr) (ml mi : Int) (rd : List Str → PyData), vs = [.str x, .ref fr, .int ml, .int mi] ∧ x.length ≤ 900000 ∧ Rows (linesOf x) ∧ Rdr P w K mg base n fr rd ∧
  (∀ rs ds jmp (ra fa ja t : Addr) (xs : List V) (H' : Hp), codeM rd ml mi x = .ok rs ds jmp → Same H H' → H' ra = some (.lst (rs.map V.str)) → H' fa = some (.lst xs) → TDs K H' xs ds → (∀ d ∈ ds, HasW d) → H' ja = some (.dK jmp) → H' t = some (.tup [.ref ra, .ref fa, .ref ja]) → Q (.ref t) H') ∧
  (∀ m, codeM rd ml mi x = .bad m → lineErr CL m H E) ∧ (∀ wh nn mm, codeM rd ml mi x = .many wh nn mm → ∀ d H', Same H H' → H' d = some (.xd [("most", .int mm), ("many", .int nn), ("what", .str wh)]) → E (.ref CT) (some d) H')
structure FForms (K : PySem.W.Frag) (mg : Str → Option Value) (f : Addr) (d : FuncData) : Prop where
  u : Fun K "read_forms" "read_forms" sForms f d
  b : Binds K d ["rows", "read_line"] []
  g : mg "read_forms" = some (.ref f)
structure FLines (K : PySem.W.Frag) (mg : Str → Option Value) (f : Addr) (d : FuncData) : Prop where
  u : Fun K "split_lines" "split_lines" sLines f d
  b : Binds K d ["text"] []
  g : mg "split_lines" = some (.ref f)
section
variable {P : Program} {w : World} {K : PySem.W.Frag} {mg : Str → Option Value} {base : Heap}
theorem ok_code {n : Nat} {f fF fL CL CT iT : Addr} {fd dF dL : FuncData} (hn : 1 ≤ n) (F : Fun K "read_code" "read_code" sCode f fd) (R : FForms K mg fF dF) (L : FLines K mg fL dL) (OF : FnOk P w K mg base (CX P w) (n + 1) fF dF ["rows", "read_line"] (spForms P w K mg base n CL))
    (B : BErr P K mg "TooMany" "TooMany.__init__" stMany ["what", "many", "most"] CT iT) (su : mg "super" = none) (T : Glo mg) :
    FnOk P w K mg base (CX P w) (n + 2) f fd ["text", "read_line", "most_lines", "most_ifs"] (spCode P w K mg base n CL CT) := by
  have OL : FnOk P w K mg base CX0 1 fL dL ["text"] spLines := ok_lines L.u
  refine F.okX scCode (fun vs H Q E h => ?_) (fun cdv A outer s H vs Q E hr h => ?_)
  · obtain ⟨x, fr, ml, mi, rd, rfl, _⟩ := h
    rfl
  · obtain ⟨x, fr, ml, mi, rd, rfl, hx, ro, D, kok, kbad, kmany⟩ := h
    have hr1 := hr.mono (show 1 ≤ n + 1 by omega)
    refine ⟨_, (pss_cons (ps_set (i := 4) scCode.nd rfl (.inl rfl) (pe_call OL hr1 rfl L.g L.u.kp L.b .nil pass0 (pa_cons (pv 0) pa_nil)))
 (pss_cons (ps_if (pt_cmpR op_gt (pe_callB call_len_seq (by rfl) T.len PySem.boot_len (pa_cons (pv 4) pa_nil)) (pv 2) (nomark _)) (pss_one (ps_raise rfl (takes_of rfl rfl rfl rfl) (pmk_err B.T B.F (by decide) B.g su hr (pa_cons pe_str (pa_cons (pe_callB call_len_seq (by rfl) T.len PySem.boot_len (pa_cons (pv 4) pa_nil)) (pa_cons (pv 2) pa_nil)))))) pss_nil)
 (pss_cons (ps_asg (pe_call OF hr rfl R.g R.u.kp R.b .nil (passes_call (takes_of rfl rfl rfl rfl) fun _ _ _ _ z => z) (pa_cons (pv 4) (pa_cons (pv 1) pa_nil))) (pg_tup rfl (pgs_cons (pg_name (i := 5) scCode.nd rfl (.inl rfl)) (pgs_cons (pg_name (i := 6) scCode.nd rfl (.inl rfl)) pgs_nil))))
 (pss_cons (ps_set (i := 7) scCode.nd rfl (.inl rfl) (pe_callB call_len_seq (by rfl) T.len PySem.boot_len (pa_cons (pe_lc (own := [("form", 8)]) (g := gName 8) rfl scCode.nd (pi_list (pv 5)) (blkOk_by (N := ["text", "read_line", "most_lines", "most_ifs", "rows", "forms", "jumps", "ifs", "form"]) (sc := defScope sCode) (by decide +kernel))
          (fun _ _ _ _ _ => pg_name (i := 8) scCode.nd rfl (.inl rfl)) (fun _ _ _ _ _ => pts_one (pt_cmpR op_eq (pe_ix (r := rIxT K) ix_tup (pv 8) pe_int (fun _ _ => rfl)) pe_str (nomark _))) (fun _ _ _ _ _ => pv 8)) pa_nil)))
 (pss_cons (ps_if (pt_cmpR op_gt (pv 7) (pv 3) (nomark _)) (pss_one (ps_raise rfl (takes_of rfl rfl rfl rfl) (pmk_err B.T B.F (by decide) B.g su hr (pa_cons pe_str (pa_cons (pv 7) (pa_cons (pv 3) pa_nil)))))) pss_nil)
 (pss_one (ps_ret (pe_tup (pa_cons (pv 4) (pa_cons (pv 5) (pa_cons (pv 6) pa_nil))))))))))), ?_⟩
    refine ⟨_, rfl, x, rfl, (by rw [sizeLine_eq]; omega), fun ra hra => ?_⟩
    have s1 : Same H _ := same_new (o := .lst ((linesOf x).map V.str)) hra
    have r1 : upd H ra (.lst ((linesOf x).map V.str)) ra = some (.lst ((linesOf x).map V.str)) := upd_same
    generalize upd H ra (.lst ((linesOf x).map V.str)) = H1 at *
    refine ⟨_, rfl, ra, _, rfl, .inl (SqL.of r1), _, rfl, _, _, rfl, rfl, _, rfl, ?_⟩
    rw [List.length_map]
    by_cases hm : ml < ((linesOf x).length : Int)
    · have e : codeM rd ml mi x = .many "lines" ((linesOf x).length : Int) ml := if_pos hm
      exact iteY hm ⟨_, rfl, ra, _, rfl, .inl (SqL.of r1), _, rfl, rfl, (fun z => by cases z), fun _ d hd => kmany _ _ _ e d _ (s1.trans (same_new hd)) (by rw [upd_same, List.length_map]; rfl)⟩
    have ec : codeM rd ml mi x = match formsGo rd (linesOf x) 0 [] [] [] with
      | .error n => .bad n
      | .ok q => if mi < ((q.1.filter isIfD).length : Int) then .many "ifs" ((q.1.filter isIfD).length : Int) mi else .ok (linesOf x) q.1 q.2 := if_neg hm
    refine iteN hm ?_
    refine ⟨_, rfl, _, rfl, ra, fr, linesOf x, rd, rfl, SqL.of r1, ro, D, fun ds jmp fa ja t xs H2 e s2 hF td hJ ht => ?_, fun m e => fun d H' s' hd => kbad m (by rw [ec, e]) d H' (s1.trans s') hd⟩
    rw [e] at ec
    dsimp only at ec
    have hw := forms_has D.ok _ _ _ _ _ e (fun _ h => absurd h List.not_mem_nil)
    have s02 := s1.trans s2
    refine ⟨t, _, rfl, SqT.of ht, rfl, _, _, rfl, _, _, rfl, rfl, ?_⟩
    refine ⟨_, rfl, fa, rfl, ⟨_, SqL.of hF⟩, fun Dd hD => lc_list (K := K) (a := fa) (xs := xs) (fun i G => Same H2 G ∧ ∃ acc, G Dd = some (.lst acc) ∧ acc.length = ((ds.take i).filter isIfD).length) ⟨same_new hD, [], upd_same, rfl⟩ (fun i G _ ⟨sG, _⟩ => SqL.of (sG _ _ hF)) ?_ ?_⟩
    · rintro i y G hi ⟨sG, acc, hG, la⟩
      obtain ⟨d, hd, tdd⟩ := (td.keep (KeepT.of sG)).get i hi
      obtain ⟨w0, r0, rfl⟩ := hw d (List.mem_of_getElem? hd)
      obtain ⟨a, ys, rfl, ha, tys⟩ := tdd.tupl
      have hys : ∃ ys', ys = .str w0 :: ys' := by
        cases tys with
        | cons t1 _ => cases t1; exact ⟨_, rfl⟩
      obtain ⟨ys', rfl⟩ := hys
      have lf := forms_len _ _ _ _ _ e
      have hi' := (List.getElem?_eq_some_iff.mp hd).1
      have lfil : ((ds.take i).filter isIfD).length ≤ i := Nat.le_trans (List.length_filter_le _ _) (by rw [List.length_take]; omega)
      have few := ro.few
      simp only [List.length_nil] at lf
      refine ⟨rfl, _, rfl, a, _, _, .str w0, rfl, rfl, ha, at_hd _ _, rfl, _, rfl, ?_⟩
      rw [dec_str, List.take_add_one, hd, List.filter_append]
      by_cases h0 : w0 = "if"
      · refine iteY h0 ⟨_, rfl, acc, hG, (by rw [sizeLine_eq]; omega), fun c o e => ?_, _, upd_same, ?_⟩
        · rw [upd_ne (fun y => by rw [y, hD] at e; cases e)]; exact sG _ _ e
        · have e1 : ([PyData.tuple (.str w0 :: r0)].filter isIfD).length = 1 := by
            rw [List.filter_cons, if_pos (show isIfD (.tuple (.str w0 :: r0)) = true from decide_eq_true h0)]; rfl
          rw [List.length_append, List.length_append, la]
          exact congrArg _ e1.symm
      · refine iteN h0 ⟨sG, acc, hG, ?_⟩
        have e1 : ([PyData.tuple (.str w0 :: r0)].filter isIfD) = [] := by
          rw [List.filter_cons, if_neg (show ¬ isIfD (.tuple (.str w0 :: r0)) = true from fun y => h0 (of_decide_eq_true y))]; rfl
        rw [la]
        show _ = (_ ++ [PyData.tuple (.str w0 :: r0)].filter isIfD).length
        rw [e1, List.append_nil]
    · rintro G ⟨sG, acc, hG, la⟩
      rw [td.len, List.take_length] at la
      have s0G := s02.trans sG
      refine ⟨_, _, rfl, .inl (SqL.of hG), ?_⟩
      refine ⟨_, rfl, _, rfl, _, _, rfl, rfl, _, rfl, ?_⟩
      rw [la]
      by_cases hi : mi < ((ds.filter isIfD).length : Int)
      · rw [if_pos hi] at ec
        exact iteY hi ⟨_, rfl, _, rfl, rfl, (fun z => by cases z), fun _ d hd => kmany _ _ _ ec d _ (s0G.trans (same_new hd)) (by rw [upd_same, ← la]; rfl)⟩
      · rw [if_neg hi] at ec
        refine iteN hi ⟨_, rfl, _, rfl, _, rfl, (by show 3 ≤ sizeLine; decide), fun t2 ht2 => ?_⟩
        have s5 : Same G _ := same_new (o := .tup [.ref ra, .ref fa, .ref ja]) ht2
        exact kok _ ds jmp ra fa ja t2 xs _ ec (s0G.trans s5) (s5 _ _ (sG _ _ (s2 _ _ r1))) (s5 _ _ (sG _ _ hF)) (td.keep (KeepT.of (sG.trans s5))) hw (s5 _ _ (sG _ _ hJ)) upd_same
end
end IdL
namespace IdL
open PySem L2 TL
/-! ### where the jumps lead -/
def Has (jmp : List (Key × V)) (l : Int) : Prop := ∃ j : Int, valV jmp (.inl l) = some (.int j) ∧ l < j
theorem Has.put {jmp : List (Key × V)} {l k v : Int} (h : Has jmp l) (hk : k < v) : Has (putK jmp (.inl k) (.int v)) l := by
  obtain ⟨j, h1, h2⟩ := h
  by_cases e : (Sum.inl l : Key) = Sum.inl k
  · refine ⟨v, by rw [valV_put, if_pos e], ?_⟩
    have : l = k := Sum.inl.inj e
    omega
  · exact ⟨j, by rw [valV_put, if_neg e]; exact h1, h2⟩
theorem Has.new {jmp : List (Key × V)} {k v : Int} (hk : k < v) : Has (putK jmp (.inl k) (.int v)) k := ⟨v, by rw [valV_put, if_pos rfl], hk⟩
def keyP (p : Int × Int) : Int := if p.2 = 0 then p.1 else p.2
def opens (d : PyData) : Prop := headW d = "if" ∨ headW d = sElse
structure JInv (fs : List PyData) (i : Nat) (stk : List (Int × Int)) (jmp : List (Key × V)) : Prop where
  len : fs.length = i
  cov : ∀ l : Nat, l < i → opens (fs.getD l .none) → Has jmp ((l : Int) + 1) ∨ ∃ p ∈ stk, keyP p = (l : Int) + 1
  bnd : ∀ p ∈ stk, p.1 ≤ i ∧ p.2 ≤ i
theorem getD_old {fs : List PyData} {d : PyData} {l : Nat} (h : l < fs.length) : (fs ++ [d]).getD l .none = fs.getD l .none := by
  rw [List.getD_eq_getElem?_getD, List.getD_eq_getElem?_getD, List.getElem?_append_left h]
theorem getD_new {fs : List PyData} {d : PyData} : (fs ++ [d]).getD fs.length .none = d := by
  rw [List.getD_eq_getElem?_getD, List.getElem?_append_right (Nat.le_refl _), Nat.sub_self]; rfl
theorem JInv.skip {fs : List PyData} {i : Nat} {stk : List (Int × Int)} {jmp : List (Key × V)} (J : JInv fs i stk jmp) {d : PyData} (h : ¬ opens d) : JInv (fs ++ [d]) (i + 1) stk jmp := by
  have len := J.len
  refine ⟨by rw [List.length_append, len]; rfl, fun l hl ho => ?_, fun p hp => ?_⟩
  · by_cases e : l < i
    · rw [getD_old (by omega)] at ho
      exact J.cov l e ho
    · obtain rfl : l = fs.length := by omega
      rw [getD_new] at ho
      exact absurd ho h
  · have := J.bnd p hp
    omega
theorem JInv.push {fs : List PyData} {i : Nat} {stk : List (Int × Int)} {jmp : List (Key × V)} (J : JInv fs i stk jmp) {d : PyData} : JInv (fs ++ [d]) (i + 1) (stk ++ [((i : Int) + 1, 0)]) jmp := by
  have len := J.len
  refine ⟨by rw [List.length_append, len]; rfl, fun l hl ho => ?_, fun p hp => ?_⟩
  · by_cases e : l < i
    · rw [getD_old (by omega)] at ho
      rcases J.cov l e ho with h | ⟨p, hp, h⟩
      · exact .inl h
      · exact .inr ⟨p, List.mem_append.mpr (.inl hp), h⟩
    · obtain rfl : l = i := by omega
      exact .inr ⟨_, List.mem_append.mpr (.inr (List.mem_singleton.mpr rfl)), if_pos rfl⟩
  · rcases List.mem_append.mp hp with h | h
    · have := J.bnd p h
      omega
    · rw [List.mem_singleton.mp h]
      exact ⟨by show (i : Int) + 1 ≤ ((i + 1 : Nat) : Int); omega, by show (0 : Int) ≤ ((i + 1 : Nat) : Int); omega⟩
theorem JInv.close {fs : List PyData} {i : Nat} {stk stk' : List (Int × Int)} {jmp jmp' : List (Key × V)} (J : JInv fs i stk jmp) {el : Bool} {d : PyData} (h : closeM el ((i : Int) + 1) stk jmp = some (stk', jmp')) (hd : el = false → ¬ opens d) : JInv (fs ++ [d]) (i + 1) stk' jmp' := by
  have len := J.len
  rcases List.eq_nil_or_concat stk with e0 | ⟨ps, p, e0⟩
  · subst e0; cases h
  rw [List.concat_eq_append] at e0
  subst e0
  have em : closeM el ((i : Int) + 1) (ps ++ [p]) jmp = if el = true then (if p.2 = 0 then some (ps ++ [(p.1, (i : Int) + 1)], putK jmp (.inl p.1) (.int ((i : Int) + 1 + 1))) else none)
      else some (ps, putK jmp (.inl (if p.2 = 0 then p.1 else p.2)) (.int ((i : Int) + 1))) := by
    unfold closeM
    rw [List.getLast?_append, List.dropLast_concat]; rfl
  rw [em] at h
  have bp := J.bnd p (List.mem_append.mpr (.inr (List.mem_singleton.mpr rfl)))
  have bq : ∀ q ∈ ps, q.1 ≤ i ∧ q.2 ≤ i := fun q hq => J.bnd q (List.mem_append.mpr (.inl hq))
  have kp : keyP p < (i : Int) + 1 := by unfold keyP; split <;> omega
  cases el with
  | true =>
    rw [if_pos rfl] at h
    by_cases h0 : p.2 = 0
    · rw [if_pos h0] at h
      cases h
      have ek : keyP p = p.1 := if_pos h0
      refine ⟨by rw [List.length_append, len]; rfl, fun l hl ho => ?_, fun q hq => ?_⟩
      · by_cases e : l < i
        · rw [getD_old (by omega)] at ho
          rcases J.cov l e ho with h | ⟨q, hq, h⟩
          · exact .inl (h.put (by omega))
          · rcases List.mem_append.mp hq with hq | hq
            · exact .inr ⟨q, List.mem_append.mpr (.inl hq), h⟩
            · rw [List.mem_singleton.mp hq] at h
              refine .inl ?_
              rw [← h, ek]
              exact Has.new (by omega)
        · obtain rfl : l = i := by omega
          exact .inr ⟨_, List.mem_append.mpr (.inr (List.mem_singleton.mpr rfl)), if_neg (show ¬ (l : Int) + 1 = 0 by omega)⟩
      · rcases List.mem_append.mp hq with h | h
        · have := bq q h
          omega
        · rw [List.mem_singleton.mp h]
          exact ⟨by show p.1 ≤ ((i + 1 : Nat) : Int); omega, by show (i : Int) + 1 ≤ ((i + 1 : Nat) : Int); omega⟩
    · rw [if_neg h0] at h; cases h
  | false =>
    rw [if_neg Bool.false_ne_true] at h
    cases h
    have nd := hd rfl
    refine ⟨by rw [List.length_append, len]; rfl, fun l hl ho => ?_, fun q hq => ?_⟩
    · by_cases e : l < i
      · rw [getD_old (by omega)] at ho
        rcases J.cov l e ho with h | ⟨q, hq, h⟩
        · exact .inl (h.put kp)
        · rcases List.mem_append.mp hq with hq | hq
          · exact .inr ⟨q, hq, h⟩
          · rw [List.mem_singleton.mp hq] at h
            refine .inl ?_
            rw [← h]
            exact Has.new kp
      · obtain rfl : l = fs.length := by omega
        rw [getD_new] at ho
        exact absurd ho nd
    · have := bq q hq
      omega
theorem if_else : ¬ ("if" : Str) = sElse := by decide +kernel
theorem end_if : ¬ sEnd = ("if" : Str) := by decide +kernel
theorem end_else : ¬ sEnd = sElse := by decide +kernel
theorem forms_jumps {rd : List Str → PyData} : ∀ (rs : List Str) (i : Nat) (fs : List PyData) (stk : List (Int × Int)) (jmp : List (Key × V)) {q : List PyData × List (Key × V)}, formsGo rd rs i fs stk jmp = .ok q → JInv fs i stk jmp → JInv q.1 (i + rs.length) [] q.2
  | [], i, fs, stk, jmp, q, h, J => by
    have h : (if stk.isEmpty = true then Except.ok (fs, jmp) else Except.error (i + 1)) = Except.ok q := h
    split at h
    · rename_i hs
      cases h
      rw [List.isEmpty_iff.mp hs] at J
      exact J
    · cases h
  | row :: rs, i, fs, stk, jmp, q, h, J => by
    rw [formsGo_cons] at h
    have e : i + (row :: rs).length = (i + 1) + rs.length := by simp only [List.length_cons]; omega
    rw [e]
    split at h
    · cases h
    · split at h
      · exact forms_jumps rs _ _ _ _ h J.push
      · rename_i h1
        split at h
        · split at h
          · cases h
          · rename_i q' hc
            refine forms_jumps rs _ _ _ _ h (J.close hc fun z ho => ?_)
            have := of_decide_eq_false z
            rcases ho with ho | ho
            · exact h1 ho
            · exact this ho
        · rename_i h2
          refine forms_jumps rs _ _ _ _ h (J.skip fun ho => ?_)
          rcases ho with ho | ho
          · exact h1 ho
          · exact h2 (.inl ho)
theorem jumps_of {rd : List Str → PyData} {rs : List Str} {ds : List PyData} {jmp : List (Key × V)} (h : formsGo rd rs 0 [] [] [] = .ok (ds, jmp)) : ∀ l : Nat, l < ds.length → opens (ds.getD l .none) → Has jmp ((l : Int) + 1) := fun l hl ho => by
  have J := forms_jumps rs 0 [] [] [] h ⟨rfl, fun l hl => absurd hl (by omega), fun p hp => absurd hp List.not_mem_nil⟩
  have e : ds.length = 0 + rs.length := J.len
  rcases J.cov l (by omega) ho with h | ⟨p, hp, _⟩
  · exact h
  · cases hp
end IdL
namespace IdL
open PySem L2 TL
/-! ### the ways -/
structure FormsAt (K : PySem.W.Frag) (H : Hp) (fa : Addr) (ds : List PyData) : Prop where
  ex : ∃ xs, H fa = some (.lst xs) ∧ TDs K H xs ds
  has : ∀ d ∈ ds, HasW d
theorem FormsAt.same {K : PySem.W.Frag} {H H' : Hp} {fa : Addr} {ds : List PyData} (h : FormsAt K H fa ds) (s : Same H H') : FormsAt K H' fa ds := by
  obtain ⟨xs, h1, h2⟩ := h.ex
  exact ⟨⟨xs, s _ _ h1, h2.keep (KeepT.of s)⟩, h.has⟩
theorem TDs.at {K : PySem.W.Frag} {H : Hp} : ∀ {vs : List V} {ds : List PyData} (t : TDs K H vs ds) (i : Nat), i < ds.length → ∃ v, vs[i]? = some v ∧ TD K H v (ds.getD i .none)
  | _, _, .cons h t, 0, _ => ⟨_, rfl, h⟩
  | _, _, .cons h t, i + 1, hi => TDs.at t i (by simp only [List.length_cons] at hi; omega)
theorem FormsAt.head {K : PySem.W.Frag} {H : Hp} {fa : Addr} {ds : List PyData} (h : FormsAt K H fa ds) {l : Nat} (hl : l < ds.length) : ∃ xs a ys, H fa = some (.lst xs) ∧ xs.length = ds.length ∧ xs[l]? = some (.ref a) ∧ SqT K H a (.str (headW (ds.getD l .none)) :: ys) ∧ TD K H (.ref a) (ds.getD l .none) := by
  obtain ⟨xs, h1, h2⟩ := h.ex
  obtain ⟨v, hv, tv⟩ := h2.at l hl
  have hm : ds.getD l .none ∈ ds := by
    rw [List.getD_eq_getElem?_getD, List.getElem?_eq_getElem hl]; exact List.getElem_mem _
  obtain ⟨w, r, e⟩ := h.has _ hm
  rw [e] at tv ⊢
  have tv' := tv
  obtain ⟨a, ys, rfl, ha, tys⟩ := tv.tupl
  have hys : ∃ ys', ys = .str w :: ys' := by
    cases tys with
    | cons t1 _ => cases t1; exact ⟨_, rfl⟩
  obtain ⟨ys', rfl⟩ := hys
  exact ⟨xs, a, ys', h1, h2.len, hv, ha, tv'⟩
theorem at_nat {xs : List V} {l : Nat} {v : V} (h : xs[l]? = some v) : atI xs ((l : Int) + 1 - 1) = some v := by
  rw [show (l : Int) + 1 - 1 = (l : Int) by omega]
  exact atI_nat h
abbrev sStep : Stmt := top 43
theorem scStep : FnScope ["forms", "jumps", "line"] ["forms", "jumps", "line"] (defScope sStep) := ⟨rfl, rfl, rfl, by decide +kernel, rfl, by decide +kernel, by decide +kernel⟩
def JOk (ds : List PyData) (jmp : List (Key × V)) : Prop := ∀ l : Nat, l < ds.length → opens (ds.getD l .none) → Has jmp ((l : Int) + 1)
/-- from a line on to the next one that is played, past else and end -/
inductive StepTo (ds : List PyData) (jmp : List (Key × V)) : Nat → Nat → Prop
  | stop (l : Nat) (h : l < ds.length → ¬ (headW (ds.getD l .none) = sElse ∨ headW (ds.getD l .none) = sEnd)) : StepTo ds jmp l l
  | end_ (l m : Nat) (hl : l < ds.length) (h : headW (ds.getD l .none) = sEnd) (r : StepTo ds jmp (l + 1) m) : StepTo ds jmp l m
  | else_ (l j m : Nat) (hl : l < ds.length) (h : headW (ds.getD l .none) = sElse) (hj : valV jmp (.inl ((l : Int) + 1)) = some (.int ((j : Int) + 1))) (r : StepTo ds jmp j m) : StepTo ds jmp l m
theorem StepTo.one {ds : List PyData} {jmp : List (Key × V)} {l m m' : Nat} (a : StepTo ds jmp l m) (b : StepTo ds jmp l m') : m = m' := by
  induction a with
  | stop l h =>
    cases b with
    | stop _ _ => rfl
    | end_ _ _ hl h' _ => exact absurd (.inr h') (h hl)
    | else_ _ _ _ hl h' _ _ => exact absurd (.inl h') (h hl)
  | end_ l m hl h r ih =>
    cases b with
    | stop _ h' => exact absurd (.inr h) (h' hl)
    | end_ _ _ _ _ r' => exact ih r'
    | else_ _ _ _ _ h' _ _ => rw [h] at h'; exact absurd h' end_else
  | else_ l j m hl h hj r ih =>
    cases b with
    | stop _ h' => exact absurd (.inl h) (h' hl)
    | end_ _ _ _ h' _ => rw [h'] at h; exact absurd h end_else
    | else_ _ j' _ _ _ hj' r' =>
      rw [hj] at hj'
      have : j = j' := by
        have := V.int.inj (Option.some.inj hj')
        omega
      subst this
      exact ih r'
def spStep (K : PySem.W.Frag) : Sp := fun vs H Q _ => ∃ (fa ja : Addr) (l : Nat) (ds : List PyData) (jmp : List (Key × V)), vs = [.ref fa, .ref ja, .int ((l : Int) + 1)] ∧ FormsAt K H fa ds ∧ H ja = some (.dK jmp) ∧ JOk ds jmp ∧ ds.length ≤ 100000 ∧
  ∀ (m : Nat) H', l ≤ m → StepTo ds jmp l m → (m < ds.length → ¬ (headW (ds.getD m .none) = sElse ∨ headW (ds.getD m .none) = sEnd)) → Same H H' → Q (.int ((m : Int) + 1)) H'
section
variable {P : Program} {w : World} {K : PySem.W.Frag} {mg : Str → Option Value} {base : Heap}
theorem ok_step {f : Addr} {fd : FuncData} (F : Fun K "step_on" "step_on" sStep f fd) (T : Glo mg) : FnOk P w K mg base CX0 1 f fd ["forms", "jumps", "line"] (spStep K) := by
  refine F.ok scStep (fun vs H Q E h => ?_) (fun cdv A outer s H vs Q E hr h => ?_)
  · obtain ⟨fa, ja, l, ds, jmp, rfl, _⟩ := h
    rfl
  · obtain ⟨fa, ja, l, ds, jmp, rfl, hF, hJ, J, few, k⟩ := h
    have hu := hu_of hr
    refine ⟨_, (pss_cons (ps_while PassesOwn.never (PW.pt (pw_and (pt_cmpR op_le (pv 2) (pe_callB call_len_seq (by rfl) T.len PySem.boot_len (pa_cons (pv 0) pa_nil)) (nomark _)) (pw_and1 (pt_cmpR op_in_seq (pe_ix ix_tup (pe_ix ix_list (pv 0) (pe_op op_sub (pv 2) pe_int) (fun _ _ => rfl)) pe_int (fun _ _ => rfl)) (pe_tup (pa_cons pe_str (pa_cons pe_str pa_nil))) (by rfl)))))
        (pss_one (ps_set (i := 2) scStep.nd rfl (.inl rfl) (pe_ifExp (pt_cmpR op_eq (pe_ix ix_tup (pe_ix ix_list (pv 0) (pe_op op_sub (pv 2) pe_int) (fun _ _ => rfl)) pe_int (fun _ _ => rfl)) pe_str (nomark _)) (pe_dget hu (pv 1) (pv 2) (fun _ _ => rfl)) (pe_op op_add (pv 2) pe_int)))))
 (pss_one (ps_ret (pv 2)))), ?_⟩
    refine ⟨fun n σ G => ∃ m : Nat, σ = [some (.ref fa), some (.ref ja), some (.int ((m : Int) + 1))] ∧ Same H G ∧ l ≤ m ∧ (∀ q, StepTo ds jmp m q → StepTo ds jmp l q) ∧ n = ds.length - m, ⟨_, l, rfl, Same.refl H, Nat.le_refl _, (fun _ h => h), rfl⟩, ?_⟩
    rintro n σ G ⟨m, rfl, sG, hm, st, rfl⟩
    have hFG := hF.same sG
    obtain ⟨xs, hxs, tds⟩ := hFG.ex
    refine ⟨_, rfl, _, rfl, fa, _, rfl, .inl (SqL.of hxs), _, _, rfl, rfl, _, rfl, ?_⟩
    rw [tds.len]
    by_cases hle : m < ds.length
    · refine iteY (show (m : Int) + 1 ≤ (ds.length : Int) by omega) ?_
      obtain ⟨xs', a, ys, hxs', lx, hv, ha, _⟩ := hFG.head hle
      have ex : xs = xs' := by rw [hxs] at hxs'; cases hxs'; rfl
      subst ex
      refine ⟨_, rfl, _, rfl, _, _, rfl, rfl, fa, xs, _, .ref a, rfl, rfl, SqL.of hxs, at_nat hv, a, _, _, .str (headW (ds.getD m .none)), rfl, rfl, ha, at_hd _ _, (by show 2 ≤ sizeLine; decide), fun T hT => ?_⟩
      have s7 : Same G _ := same_new (o := .tup (sBlk.map V.str)) hT
      have t7 : upd G T (.tup (sBlk.map V.str)) T = some (.tup (sBlk.map V.str)) := upd_same
      show rIn _ _ _ _ (upd G T (.tup (sBlk.map V.str))) _
      generalize upd G T (.tup (sBlk.map V.str)) = G7 at *
      have s07 := sG.trans s7
      refine ⟨T, _, rfl, .inr (SqT.of t7), rfl, flat_strs sBlk, _, rfl, ?_⟩
      rw [in_strs]
      by_cases hblk : headW (ds.getD m .none) ∈ sBlk
      · refine iteY hblk ⟨fun σ' G' => ∃ m' : Nat, σ' = [some (.ref fa), some (.ref ja), some (.int ((m' : Int) + 1))] ∧ Same H G' ∧ m < m' ∧ (∀ q, StepTo ds jmp m' q → StepTo ds jmp m q), ?_, ?_⟩
        · rintro σ' G' ⟨m', rfl, s', hlt, st'⟩
          exact ⟨ds.length - m', by omega, m', rfl, s', by omega, (fun q h => st q (st' q h)), rfl⟩
        · refine ⟨_, rfl, _, rfl, _, _, rfl, rfl, fa, xs, _, .ref a, rfl, rfl, SqL.of (s7 _ _ hxs), at_nat hv, a, _, _, .str (headW (ds.getD m .none)), rfl, rfl, Same.tup s7 ha, at_hd _ _, rfl, _, rfl, ?_⟩
          rw [dec_str]
          by_cases hel : headW (ds.getD m .none) = sElse
          · obtain ⟨j, hj, hlt⟩ := J m hle (.inr hel)
            have dg := DGet.k (k := Sum.inl ((m : Int) + 1)) (s07 _ _ hJ)
            rw [hj] at dg
            refine iteY hel ⟨_, rfl, _, rfl, ja, _, rfl, dg, (j - 1).toNat, ?_, s07, by omega, fun q h => .else_ m (j - 1).toNat q hle hel (by rw [hj]; congr 2; omega) h⟩
            rw [show (((j - 1).toNat : Nat) : Int) + 1 = j by omega]
            rfl
          · have hen : headW (ds.getD m .none) = sEnd := by
              rcases List.mem_cons.mp hblk with h | h
              · exact absurd h hel
              · exact List.mem_singleton.mp h
            exact iteN hel ⟨_, rfl, _, _, rfl, rfl, m + 1, rfl, s07, by omega, fun q h => .end_ m q hle hen h⟩
      · have nb : ¬ (headW (ds.getD m .none) = sElse ∨ headW (ds.getD m .none) = sEnd) := fun y => hblk (by
          rcases y with h | h
          · rw [h]; exact List.mem_cons_self ..
          · rw [h]; exact List.mem_cons_of_mem _ (List.mem_singleton.mpr rfl))
        refine iteN hblk ⟨_, rfl, k m G7 hm (st m (.stop m fun _ => nb)) (fun _ y => hblk ?_) s07⟩
        rcases y with h | h
        · rw [h]; exact List.mem_cons_self ..
        · rw [h]; exact List.mem_cons_of_mem _ (List.mem_singleton.mpr rfl)
    · exact iteN (show ¬ (m : Int) + 1 ≤ (ds.length : Int) by omega) (iteF ⟨_, rfl, k m G hm (st m (.stop m fun y => absurd y hle)) (fun y => absurd y hle) sG⟩)
end
end IdL
namespace IdL
open PySem L2 TL PySem.Spec PyProof.Rows
/-- t + u of any two tuples: () + u is u itself -/
def rCatA (K : PySem.W.Frag) : R2 := fun x y H Q => ∃ a b xs ys, x = .ref a ∧ y = .ref b ∧ SqT K H a xs ∧ SqT K H b ys ∧ xs.length + ys.length ≤ sizeLine ∧
  (xs = [] → Q (.ref b) H) ∧ (xs ≠ [] → ys = [] → Q (.ref a) H) ∧ (xs ≠ [] → ys ≠ [] → ∀ p, H p = none → Q (.ref p) (upd H p (.tup (xs ++ ys))))
theorem cat_nil {prog : Program} {w : World} {A : Around} {E : Value → Shared → Prop} {s : Shared} {t b : Addr} {vs ws : List Value} {Q : Value → Shared → Prop} (ht : IsTup s.heap t vs.toArray) (hb : IsTup s.heap b ws.toArray) (hv : vs = [])
    (h0 : Q (.ref b) s) : wpAny (model prog w) A (binaryOp .Add (.ref t) (.ref b)) Q E s := by
  obtain ⟨⟨cls, dd, data, sl⟩, ho, hc, n, hd⟩ := id ht
  obtain ⟨⟨cls2, dd2, data2, sl2⟩, ho2, hc2, n2, hd2⟩ := id hb
  simp only at hc hd hc2 hd2
  subst hc hd hc2 hd2
  exact concat_meets ⟨_, ho, rfl⟩ ⟨_, ho2, rfl⟩ noFill_tuple_add seq_tuple_add PySem.F.slot_tuple_add PySem.F.entry_tuple_add (PySem.F.args_tuple_add_2 _ _)
    (tuple_addW0 t b vs.toArray ws.toArray n n2 dd dd2 sl sl2 (by simp [hv])) ⟨ho, ho2, h0⟩
theorem op_catA {X : Cx} : OpR X (binaryOp .Add) (rCatA X.K) := by
  intro pins s σ H x y v u Q I rx ry h
  obtain ⟨a, b, xs, ys, rfl, rfl, ha, hb, hz, q0, q1, q2⟩ := h
  by_cases hx : xs = []
  · cases rx
    cases ry
    obtain ⟨its, r1, p1, _⟩ := I.tuple ha
    obtain ⟨its2, r2, p2, _⟩ := I.tuple hb
    exact cat_nil p1 p2 (r1.nil_iff.mpr hx) ⟨.ref b, H, I, rfl, q0 hx⟩
  · exact op_catT pins s σ H _ _ v u Q I rx ry ⟨a, b, xs, ys, rfl, rfl, ha, hb, hx, hz, q1 hx, q2 hx⟩
/-! ### all ways of a code -/
def wayV (ls : List Nat) : List V := ls.map fun l : Nat => V.int ((l : Int) + 1)
structure WayAt (H : Hp) (a : Addr) (n k : Nat) (ls : List Nat) : Prop where
  at_ : H a = some (.tup (wayV ls))
  low : ∀ l ∈ ls, l < n
  len : ls.length ≤ k
def WorkAt (H : Hp) (n : Nat) (a : Addr) (s : Nat) (ls : List Nat) : Prop := ∃ wa, H a = some (.tup [.int ((s : Int) + 1), .ref wa]) ∧ WayAt H wa n s ls
inductive WorkL (H : Hp) (n : Nat) : List Addr → List (Nat × List Nat) → Prop
  | nil : WorkL H n [] []
  | cons {a : Addr} {s : Nat × List Nat} {as : List Addr} {ss : List (Nat × List Nat)} : WorkAt H n a s.1 s.2 → WorkL H n as ss → WorkL H n (a :: as) (s :: ss)
inductive WaysL (H : Hp) (n : Nat) : List Addr → List (List Nat) → Prop
  | nil : WaysL H n [] []
  | cons {a : Addr} {k : Nat} {ls : List Nat} {as : List Addr} {ss : List (List Nat)} : WayAt H a n k ls → WaysL H n as ss → WaysL H n (a :: as) (ls :: ss)
/-- the tuples that are tracked stand -/
def KeepU (H H' : Hp) : Prop := ∀ a xs, H a = some (.tup xs) → H' a = some (.tup xs)
theorem KeepU.trans {H H1 H2 : Hp} (a : KeepU H H1) (b : KeepU H1 H2) : KeepU H H2 := fun p xs h => b p xs (a p xs h)
theorem KeepU.of {H H' : Hp} (s : Same H H') : KeepU H H' := fun a xs e => s _ _ e
theorem KeepU.lst {H : Hp} {p : Addr} {zs : List V} {o : HO} (e : H p = some (.lst zs)) : KeepU H (upd H p o) := fun a xs h => by
  rw [upd_ne (fun y => by rw [y, e] at h; cases h)]; exact h
theorem WayAt.keep {H H' : Hp} {a : Addr} {n k : Nat} {ls : List Nat} (h : WayAt H a n k ls) (u : KeepU H H') : WayAt H' a n k ls := ⟨u _ _ h.at_, h.low, h.len⟩
theorem WayAt.more {H : Hp} {a : Addr} {n k j : Nat} {ls : List Nat} (h : WayAt H a n k ls) (u : k ≤ j) : WayAt H a n j ls := ⟨h.at_, h.low, Nat.le_trans h.len u⟩
theorem WorkAt.keep {H H' : Hp} {a : Addr} {n s : Nat} {ls : List Nat} (h : WorkAt H n a s ls) (u : KeepU H H') : WorkAt H' n a s ls := by
  obtain ⟨wa, h1, h2⟩ := h
  exact ⟨wa, u _ _ h1, h2.keep u⟩
theorem WaysL.keep {H H' : Hp} {n : Nat} (u : KeepU H H') : ∀ {as : List Addr} {ss : List (List Nat)}, WaysL H n as ss → WaysL H' n as ss
  | _, _, .nil => .nil
  | _, _, .cons h t => .cons (h.keep u) (t.keep u)
theorem WaysL.snoc {H : Hp} {n k : Nat} {b : Addr} {s : List Nat} (e : WayAt H b n k s) : ∀ {as : List Addr} {ss : List (List Nat)}, WaysL H n as ss → WaysL H n (as ++ [b]) (ss ++ [s])
  | _, _, .nil => .cons e .nil
  | _, _, .cons h t => .cons h (t.snoc e)
theorem WaysL.len {H : Hp} {n : Nat} : ∀ {as : List Addr} {ss : List (List Nat)}, WaysL H n as ss → as.length = ss.length
  | _, _, .nil => rfl
  | _, _, .cons _ t => by rw [List.length_cons, List.length_cons, t.len]
theorem WorkL.keep {H H' : Hp} {n : Nat} (u : KeepU H H') : ∀ {as : List Addr} {ss : List (Nat × List Nat)}, WorkL H n as ss → WorkL H' n as ss
  | _, _, .nil => .nil
  | _, _, .cons h t => .cons (h.keep u) (t.keep u)
theorem WorkL.snoc {H : Hp} {n : Nat} {b : Addr} {s : Nat × List Nat} (e : WorkAt H n b s.1 s.2) : ∀ {as : List Addr} {ss : List (Nat × List Nat)}, WorkL H n as ss → WorkL H n (as ++ [b]) (ss ++ [s])
  | _, _, .nil => .cons e .nil
  | _, _, .cons h t => .cons h (t.snoc e)
theorem WorkL.last {H : Hp} {n : Nat} : ∀ {ss : List (Nat × List Nat)} {as : List Addr} {s : Nat × List Nat}, WorkL H n as (ss ++ [s]) → ∃ as' a, as = as' ++ [a] ∧ WorkL H n as' ss ∧ WorkAt H n a s.1 s.2
  | [], _, s, .cons (a := a) h t => by cases t; exact ⟨[], a, rfl, .nil, h⟩
  | q :: ss, _, s, .cons (a := a) h t => by
    obtain ⟨as', b, rfl, t', hb⟩ := t.last
    exact ⟨a :: as', b, rfl, .cons h t', hb⟩
theorem WorkL.len {H : Hp} {n : Nat} : ∀ {as : List Addr} {ss : List (Nat × List Nat)}, WorkL H n as ss → as.length = ss.length
  | _, _, .nil => rfl
  | _, _, .cons _ t => by rw [List.length_cons, List.length_cons, t.len]
/-- ifs from a line on, the ways that may follow, the steps that may follow -/
def ifsFrom (ds : List PyData) (s : Nat) : Nat := ((ds.drop s).filter isIfD).length
def wgt (ds : List PyData) (ss : List (Nat × List Nat)) : Nat := (ss.map fun s => 2 ^ ifsFrom ds s.1).sum
def msr (n : Nat) (ss : List (Nat × List Nat)) : Nat := (ss.map fun s => 3 ^ (n + 1 - s.1)).sum
theorem wgt_snoc (ds : List PyData) (ss : List (Nat × List Nat)) (s : Nat × List Nat) : wgt ds (ss ++ [s]) = wgt ds ss + 2 ^ ifsFrom ds s.1 := by
  unfold wgt; rw [List.map_append, List.sum_append]; simp
theorem msr_snoc (n : Nat) (ss : List (Nat × List Nat)) (s : Nat × List Nat) : msr n (ss ++ [s]) = msr n ss + 3 ^ (n + 1 - s.1) := by
  unfold msr; rw [List.map_append, List.sum_append]; simp
theorem ifs_mono (ds : List PyData) {s m : Nat} (h : s ≤ m) : ifsFrom ds m ≤ ifsFrom ds s := by
  unfold ifsFrom
  have : ds.drop m = (ds.drop s).drop (m - s) := by rw [List.drop_drop]; congr 1; omega
  rw [this]
  exact ((List.drop_sublist _ _).filter _).length_le
theorem ifs_at (ds : List PyData) {m : Nat} (h : m < ds.length) (hi : headW (ds.getD m .none) = "if") : ifsFrom ds (m + 1) + 1 ≤ ifsFrom ds m := by
  unfold ifsFrom
  rw [List.drop_eq_getElem_cons h, List.filter_cons]
  have : isIfD ds[m] = true := by
    rw [List.getD_eq_getElem?_getD, List.getElem?_eq_getElem h] at hi
    exact decide_eq_true hi
  rw [if_pos this, List.length_cons]
  exact Nat.le_refl _
theorem pow_le3 {a b : Nat} (h : a ≤ b) : 3 ^ a ≤ 3 ^ b := Nat.pow_le_pow_right (by decide) h
theorem pow_le2 {a b : Nat} (h : a ≤ b) : 2 ^ a ≤ 2 ^ b := Nat.pow_le_pow_right (by decide) h
def endL : List Str := ["no", "quit", "accept", "refuse"]
/-! ### which rows of lines are ways -/
inductive WayM (ds : List PyData) (jmp : List (Key × V)) : Nat → List Nat → Prop
  | over (m : Nat) (h : ds.length ≤ m) : WayM ds jmp m []
  | ends (m : Nat) (hm : m < ds.length) (h : headW (ds.getD m .none) ∈ endL) : WayM ds jmp m [m]
  | ifA (m q : Nat) (t : List Nat) (hm : m < ds.length) (h : headW (ds.getD m .none) = "if") (s : StepTo ds jmp (m + 1) q) (r : WayM ds jmp q t) : WayM ds jmp m (m :: t)
  | ifB (m j q : Nat) (t : List Nat) (hm : m < ds.length) (h : headW (ds.getD m .none) = "if") (hj : valV jmp (.inl ((m : Int) + 1)) = some (.int ((j : Int) + 1))) (s : StepTo ds jmp j q) (r : WayM ds jmp q t) : WayM ds jmp m (m :: t)
  | pl (m q : Nat) (t : List Nat) (hm : m < ds.length) (h : headW (ds.getD m .none) ∉ endL) (h2 : ¬ headW (ds.getD m .none) = "if") (s : StepTo ds jmp (m + 1) q) (r : WayM ds jmp q t) : WayM ds jmp m (m :: t)
def WayR (ds : List PyData) (jmp : List (Key × V)) (l : Nat) (t : List Nat) : Prop := ∃ m, StepTo ds jmp l m ∧ WayM ds jmp m t
theorem if_end : ("if" : Str) ∉ endL := by decide +kernel
/-- what is found and what is still to be gone make up all ways -/
structure WInv (ds : List PyData) (jmp : List (Key × V)) (FL : List (List Nat)) (ss : List (Nat × List Nat)) : Prop where
  snd : ∀ ls ∈ FL, WayR ds jmp 0 ls
  wsnd : ∀ p ∈ ss, ∀ t, WayR ds jmp p.1 t → WayR ds jmp 0 (p.2 ++ t)
  cmp : ∀ ls, WayR ds jmp 0 ls → ls ∈ FL ∨ ∃ p ∈ ss, ∃ t, WayR ds jmp p.1 t ∧ ls = p.2 ++ t
section
variable {ds : List PyData} {jmp : List (Key × V)} {FL : List (List Nat)} {ss : List (Nat × List Nat)} {s0 m : Nat} {w : List Nat}
theorem WInv.split (I : WInv ds jmp FL (ss ++ [(s0, w)])) : (∀ p ∈ ss, ∀ t, WayR ds jmp p.1 t → WayR ds jmp 0 (p.2 ++ t)) ∧ (∀ t, WayR ds jmp s0 t → WayR ds jmp 0 (w ++ t)) ∧ ∀ ls, WayR ds jmp 0 ls → ls ∈ FL ∨ (∃ p ∈ ss, ∃ t, WayR ds jmp p.1 t ∧ ls = p.2 ++ t) ∨ ∃ t, WayR ds jmp s0 t ∧ ls = w ++ t := by
  refine ⟨fun p hp => I.wsnd p (List.mem_append.mpr (.inl hp)), fun t => I.wsnd (s0, w) (List.mem_append.mpr (.inr (List.mem_singleton.mpr rfl))) t, fun ls h => ?_⟩
  rcases I.cmp ls h with y | ⟨p, hp, t, ht, e⟩
  · exact .inl y
  · rcases List.mem_append.mp hp with y | y
    · exact .inr (.inl ⟨p, y, t, ht, e⟩)
    · rw [List.mem_singleton.mp y] at ht e
      exact .inr (.inr ⟨t, ht, e⟩)
theorem WInv.told (I : WInv ds jmp FL (ss ++ [(s0, w)])) {t0 : List Nat} (h : ∀ t, WayR ds jmp s0 t ↔ t = t0) : WInv ds jmp (FL ++ [w ++ t0]) ss := by
  obtain ⟨h1, h2, h3⟩ := I.split
  refine ⟨fun ls hl => ?_, h1, fun ls hl => ?_⟩
  · rcases List.mem_append.mp hl with y | y
    · exact I.snd ls y
    · rw [List.mem_singleton.mp y]; exact h2 t0 ((h t0).mpr rfl)
  · rcases h3 ls hl with y | y | ⟨t, ht, e⟩
    · exact .inl (List.mem_append.mpr (.inl y))
    · exact .inr y
    · rw [(h t).mp ht] at e
      exact .inl (List.mem_append.mpr (.inr (List.mem_singleton.mpr e)))
theorem way_at (hs : StepTo ds jmp s0 m) (t : List Nat) : WayR ds jmp s0 t ↔ WayM ds jmp m t := by
  constructor
  · rintro ⟨q, h1, h2⟩
    rw [hs.one h1]; exact h2
  · exact fun h => ⟨m, hs, h⟩
theorem WInv.over (I : WInv ds jmp FL (ss ++ [(s0, w)])) (hs : StepTo ds jmp s0 m) (hm : ds.length ≤ m) : WInv ds jmp (FL ++ [w]) ss := by
  have := I.told (t0 := []) fun t => by
    rw [way_at hs]
    constructor
    · intro h
      cases h with
      | over => rfl
      | ends => omega
      | ifA => omega
      | ifB => omega
      | pl => omega
    · rintro rfl; exact .over m hm
  rw [List.append_nil] at this
  exact this
theorem WInv.ends (I : WInv ds jmp FL (ss ++ [(s0, w)])) (hs : StepTo ds jmp s0 m) (hm : m < ds.length) (he : headW (ds.getD m .none) ∈ endL) : WInv ds jmp (FL ++ [w ++ [m]]) ss :=
  I.told (t0 := [m]) fun t => by
    rw [way_at hs]
    constructor
    · intro h
      cases h with
      | over _ h => omega
      | ends => rfl
      | ifA _ _ _ _ h => rw [h] at he; exact absurd he if_end
      | ifB _ _ _ _ _ h => rw [h] at he; exact absurd he if_end
      | pl _ _ _ _ h => exact absurd he h
    · rintro rfl; exact .ends m hm he
theorem WInv.plain (I : WInv ds jmp FL (ss ++ [(s0, w)])) (hs : StepTo ds jmp s0 m) (hm : m < ds.length) (he : headW (ds.getD m .none) ∉ endL) (hi : ¬ headW (ds.getD m .none) = "if") : WInv ds jmp FL (ss ++ [(m + 1, w ++ [m])]) := by
  obtain ⟨h1, h2, h3⟩ := I.split
  have inv : ∀ t, WayR ds jmp s0 t ↔ ∃ t', t = m :: t' ∧ WayR ds jmp (m + 1) t' := fun t => by
    rw [way_at hs]
    constructor
    · intro h
      cases h with
      | over _ h => omega
      | ends _ _ h => exact absurd h he
      | ifA _ _ _ _ h => exact absurd h hi
      | ifB _ _ _ _ _ h => exact absurd h hi
      | pl _ q t _ _ _ s r => exact ⟨t, rfl, q, s, r⟩
    · rintro ⟨t', rfl, q, s, r⟩; exact .pl m q t' hm he hi s r
  refine ⟨I.snd, fun p hp t ht => ?_, fun ls hl => ?_⟩
  · rcases List.mem_append.mp hp with y | y
    · exact h1 p y t ht
    · rw [List.mem_singleton.mp y] at ht ⊢
      have := h2 (m :: t) ((inv _).mpr ⟨t, rfl, ht⟩)
      rw [show w ++ [m] ++ t = w ++ (m :: t) by simp]
      exact this
  · rcases h3 ls hl with y | ⟨p, hp, y⟩ | ⟨t, ht, e⟩
    · exact .inl y
    · exact .inr ⟨p, List.mem_append.mpr (.inl hp), y⟩
    · obtain ⟨t', rfl, ht'⟩ := (inv t).mp ht
      exact .inr ⟨(m + 1, w ++ [m]), List.mem_append.mpr (.inr (List.mem_singleton.mpr rfl)), t', ht', by rw [e]; simp⟩
theorem WInv.iff (I : WInv ds jmp FL (ss ++ [(s0, w)])) (hs : StepTo ds jmp s0 m) (hm : m < ds.length) (hi : headW (ds.getD m .none) = "if") {j : Nat} (hj : valV jmp (.inl ((m : Int) + 1)) = some (.int ((j : Int) + 1))) : WInv ds jmp FL (ss ++ [(j, w ++ [m])] ++ [(m + 1, w ++ [m])]) := by
  obtain ⟨h1, h2, h3⟩ := I.split
  have inv : ∀ t, WayR ds jmp s0 t ↔ ∃ t', t = m :: t' ∧ (WayR ds jmp (m + 1) t' ∨ WayR ds jmp j t') := fun t => by
    rw [way_at hs]
    constructor
    · intro h
      cases h with
      | over _ h => omega
      | ends _ _ h => rw [hi] at h; exact absurd h if_end
      | ifA _ q t _ _ s r => exact ⟨t, rfl, .inl ⟨q, s, r⟩⟩
      | ifB _ j' q t _ _ hj' s r =>
        rw [hj] at hj'
        have : j = j' := by
          have := V.int.inj (Option.some.inj hj')
          omega
        subst this
        exact ⟨t, rfl, .inr ⟨q, s, r⟩⟩
      | pl _ _ _ _ _ h => exact absurd hi h
    · rintro ⟨t', rfl, ⟨q, s, r⟩ | ⟨q, s, r⟩⟩
      · exact .ifA m q t' hm hi s r
      · exact .ifB m j q t' hm hi hj s r
  refine ⟨I.snd, fun p hp t ht => ?_, fun ls hl => ?_⟩
  · rw [List.append_assoc] at hp
    rcases List.mem_append.mp hp with y | y
    · exact h1 p y t ht
    · have key : ∀ t, (WayR ds jmp (m + 1) t ∨ WayR ds jmp j t) → WayR ds jmp 0 (w ++ [m] ++ t) := fun t ht => by
        have := h2 (m :: t) ((inv _).mpr ⟨t, rfl, ht⟩)
        rw [show w ++ [m] ++ t = w ++ (m :: t) by simp]
        exact this
      rcases List.mem_cons.mp y with y | y
      · rw [y] at ht ⊢; exact key t (.inr ht)
      · rw [List.mem_singleton.mp y] at ht ⊢; exact key t (.inl ht)
  · rcases h3 ls hl with y | ⟨p, hp, y⟩ | ⟨t, ht, e⟩
    · exact .inl y
    · exact .inr ⟨p, List.mem_append.mpr (.inl (List.mem_append.mpr (.inl hp))), y⟩
    · obtain ⟨t', rfl, ht'⟩ := (inv t).mp ht
      rcases ht' with y | y
      · exact .inr ⟨(m + 1, w ++ [m]), List.mem_append.mpr (.inr (List.mem_singleton.mpr rfl)), t', y, by rw [e]; simp⟩
      · exact .inr ⟨(j, w ++ [m]), List.mem_append.mpr (.inl (List.mem_append.mpr (.inr (List.mem_singleton.mpr rfl)))), t', y, by rw [e]; simp⟩
end
abbrev sWays : Stmt := top 44
theorem scWays : FnScope ["forms", "jumps", "found", "work", "start", "way", "line", "word"] ["forms", "jumps"] (defScope sWays) := ⟨rfl, rfl, rfl, by decide +kernel, rfl, by decide +kernel, by decide +kernel⟩
def spWays (K : PySem.W.Frag) : Sp := fun vs H Q _ => ∃ (fa ja : Addr) (ds : List PyData) (jmp : List (Key × V)), vs = [.ref fa, .ref ja] ∧ FormsAt K H fa ds ∧ H ja = some (.dK jmp) ∧ JOk ds jmp ∧ ds.length ≤ 100000 ∧ ifsFrom ds 0 ≤ 20 ∧
  ∀ (fo : Addr) (as : List Addr) H', Same H H' → H' fo = some (.lst (as.map V.ref)) → (∀ FL : List (List Nat), WaysL H' ds.length as FL → (∀ ls, ls ∈ FL ↔ WayR ds jmp 0 ls) → as.length ≤ 2 ^ 20 → Q (.ref fo) H')
structure FStep (K : PySem.W.Frag) (mg : Str → Option Value) (f : Addr) (d : FuncData) : Prop where
  u : Fun K "step_on" "step_on" sStep f d
  b : Binds K d ["forms", "jumps", "line"] []
  g : mg "step_on" = some (.ref f)
section
variable {P : Program} {w : World} {K : PySem.W.Frag} {mg : Str → Option Value} {base : Heap}
theorem ok_ways {f fS : Addr} {fd dS : FuncData} (F : Fun K "find_ways" "find_ways" sWays f fd) (S : FStep K mg fS dS) (T : Glo mg) (EN : ∃ p, mg "ENDING" = some (.ref p) ∧ KTup K p (endL.map V.str)) : FnOk P w K mg base CX0 2 f fd ["forms", "jumps"] (spWays K) := by
  have OS : FnOk P w K mg base CX0 1 fS dS ["forms", "jumps", "line"] (spStep K) := ok_step S.u T
  obtain ⟨ep, gE, tE⟩ := EN
  refine F.ok scWays (fun vs H Q E h => ?_) (fun cdv A outer s H vs Q E hr h => ?_)
  · obtain ⟨fa, ja, ds, jmp, rfl, _⟩ := h
    rfl
  · obtain ⟨fa, ja, ds, jmp, rfl, hF, hJ, J, few, hif, k⟩ := h
    have hu := hu_of hr
    refine ⟨_, (pss_cons (ps_set (i := 2) scWays.nd rfl (.inl rfl) (pe_lst pa_nil))
 (pss_cons (ps_set (i := 3) scWays.nd rfl (.inl rfl) (pe_lst (pa_cons (pe_tup (pa_cons pe_int (pa_cons (pe_tup pa_nil) pa_nil))) pa_nil)))
 (pss_cons (ps_while PassesOwn.never (pt_truth (pv 3) (by intro _; rfl)) (pss_cons (ps_asg (pe_bm0 PySem.F.plainAttrs_list PySem.F.slot_list_pop PySem.F.type_list_pop mt_pop (pv 3)) (pg_tup rfl (pgs_cons (pg_name (i := 4) scWays.nd rfl (.inl rfl)) (pgs_cons (pg_name (i := 5) scWays.nd rfl (.inl rfl)) pgs_nil))))
 (pss_cons (ps_set (i := 6) scWays.nd rfl (.inl rfl) (pe_call OS hr rfl S.g S.u.kp S.b .nil pass0 (pa_cons (pv 0) (pa_cons (pv 1) (pa_cons (pv 4) pa_nil)))))
 (pss_cons (ps_if (pt_cmpR op_gt (pv 6) (pe_callB call_len_seq (by rfl) T.len PySem.boot_len (pa_cons (pv 0) pa_nil)) (nomark _)) (pss_cons (ps_expr (pe_bm PySem.F.plainAttrs_list PySem.F.slot_list_append PySem.F.type_list_append mt_append (pv 2) (pa_cons (pv 5) pa_nil)))
 (pss_one (ps_continue))) pss_nil)
 (pss_join (ps_set (i := 5) scWays.nd rfl (.inl rfl) (pe_op op_catA (pv 5) (pe_tup (pa_cons (pv 6) pa_nil))))
 (pss_cons (ps_set (i := 7) scWays.nd rfl (.inl rfl) (pe_ix ix_tup (pe_ix ix_list (pv 0) (pe_op op_sub (pv 6) pe_int) (fun _ _ => rfl)) pe_int (fun _ _ => rfl)))
 (pss_cons (ps_if (pt_cmpR op_in_seq (pv 7) (pe_glob rfl gE (v := .ref ep) rfl) (by rfl)) (pss_cons (ps_expr (pe_bm PySem.F.plainAttrs_list PySem.F.slot_list_append PySem.F.type_list_append mt_append (pv 2) (pa_cons (pv 5) pa_nil)))
 (pss_one (ps_continue))) pss_nil)
 (pss_join (ps_if (pt_cmpR op_eq (pv 7) pe_str (nomark _)) (pss_one (ps_expr (pe_bm PySem.F.plainAttrs_list PySem.F.slot_list_append PySem.F.type_list_append mt_append (pv 3) (pa_cons (pe_tup (pa_cons (pe_dget hu (pv 1) (pv 6) (fun _ _ => rfl)) (pa_cons (pv 5) pa_nil))) pa_nil)))) pss_nil)
 (pss_one (ps_expr (pe_bm PySem.F.plainAttrs_list PySem.F.slot_list_append PySem.F.type_list_append mt_append (pv 3) (pa_cons (pe_tup (pa_cons (pe_op op_add (pv 6) pe_int) (pa_cons (pv 5) pa_nil))) pa_nil))))))))))))
 (pss_one (ps_ret (pv 2)))))), ?_⟩
    have low : 2 ^ ifsFrom ds 0 ≤ 2 ^ 20 := pow_le2 hif
    refine ⟨Nat.zero_le _, fun fo hfo => ?_⟩
    have s1 : Same H _ := same_new (o := .lst []) hfo
    have f1 : upd H fo (.lst []) fo = some (.lst []) := upd_same
    generalize upd H fo (.lst []) = H1 at *
    refine ⟨Nat.zero_le _, fun e0 he0 => ?_⟩
    have s2 : Same H1 _ := same_new (o := .tup []) he0
    have e2 : upd H1 e0 (.tup []) e0 = some (.tup []) := upd_same
    generalize upd H1 e0 (.tup []) = H2 at *
    refine ⟨(by show 2 ≤ sizeLine; decide), fun t0 ht0 => ?_⟩
    have s3 : Same H2 _ := same_new (o := .tup [.int 1, .ref e0]) ht0
    have t3 : upd H2 t0 (.tup [.int 1, .ref e0]) t0 = some (.tup [.int 1, .ref e0]) := upd_same
    generalize upd H2 t0 (.tup [.int 1, .ref e0]) = H3 at *
    refine ⟨(by show 1 ≤ sizeLine; decide), fun wo hwo => ?_⟩
    have s4 : Same H3 _ := same_new (o := .lst [.ref t0]) hwo
    have w4 : upd H3 wo (.lst [.ref t0]) wo = some (.lst [.ref t0]) := upd_same
    generalize upd H3 wo (.lst [.ref t0]) = H4 at *
    have s13 : Same H1 H3 := s2.trans s3
    have f3 := s13 _ _ f1
    have fo0 := hfo
    have wo0 : H wo = none := (s1.trans s13).free hwo
    have nfw : fo ≠ wo := fun y => by rw [y, hwo] at f3; cases f3
    refine ⟨fun n σ G => ∃ (fnd wk : List Addr) (ss : List (Nat × List Nat)) (FL : List (List Nat)) (v4 v5 v6 v7 : Option V), σ = [some (.ref fa), some (.ref ja), some (.ref fo), some (.ref wo), v4, v5, v6, v7] ∧ Same H G ∧ G fo = some (.lst (fnd.map V.ref)) ∧ G wo = some (.lst (wk.map V.ref)) ∧ WaysL G ds.length fnd FL ∧ WInv ds jmp FL ss ∧ WorkL G ds.length wk ss ∧
      fnd.length + wgt ds ss ≤ 2 ^ ifsFrom ds 0 ∧ n = msr ds.length ss, ⟨_, [], [t0], [(0, [])], [], none, none, none, none, rfl, (s1.trans s13).trans s4, s4 _ _ f3, w4, .nil, ⟨(fun _ h => absurd h List.not_mem_nil), (fun p hp t ht => by rw [List.mem_singleton.mp hp] at ht ⊢; exact ht), fun ls h => .inr ⟨(0, []), List.mem_singleton.mpr rfl, ls, h, rfl⟩⟩, .cons ⟨e0, s4 _ _ t3, ⟨s4 _ _ (s3 _ _ e2), (fun _ h => absurd h List.not_mem_nil), Nat.le_refl _⟩⟩ .nil, (by show 0 + (2 ^ ifsFrom ds 0 + 0) ≤ _; omega), rfl⟩, ?_⟩
    rintro n σ G ⟨fnd, wk, ss, FL, v4, v5, v6, v7, rfl, sG, hfo, hwo, hfnd, WI, WL, hw, rfl⟩
    refine ⟨_, rfl, !(wk.map V.ref).isEmpty, .inl ⟨_, SqL.of hwo, rfl⟩, ?_⟩
    rcases List.eq_nil_or_concat ss with e0 | ⟨ss', ⟨s0, ls⟩, e0⟩
    · subst e0
      cases WL
      refine iteF ⟨_, rfl, k fo fnd G sG hfo FL hfnd (fun ls => ⟨WI.snd ls, fun h => (WI.cmp ls h).elim id fun ⟨p, hp, _⟩ => absurd hp List.not_mem_nil⟩) ?_⟩
      omega
    rw [List.concat_eq_append] at e0
    subst e0
    obtain ⟨wk', a, rfl, WL', wa, ha, hwa⟩ := WL.last
    have ene : (!((wk' ++ [a]).map V.ref).isEmpty) = true := by rw [List.map_append]; cases wk' <;> rfl
    rw [ene]
    rw [wgt_snoc] at hw
    dsimp only at hw hwa
    refine iteT ⟨fun σ' G' => ∃ (fnd wk : List Addr) (ss : List (Nat × List Nat)) (FL : List (List Nat)) (v4 v5 v6 v7 : Option V), σ' = [some (.ref fa), some (.ref ja), some (.ref fo), some (.ref wo), v4, v5, v6, v7] ∧ Same H G' ∧ G' fo = some (.lst (fnd.map V.ref)) ∧ G' wo = some (.lst (wk.map V.ref)) ∧ WaysL G' ds.length fnd FL ∧ WInv ds jmp FL ss ∧ WorkL G' ds.length wk ss ∧
      fnd.length + wgt ds ss ≤ 2 ^ ifsFrom ds 0 ∧ msr ds.length ss < msr ds.length (ss' ++ [(s0, ls)]), ?_, ?_⟩
    · rintro σ' G' ⟨fnd, wk, ss, FL, v4, v5, v6, v7, e, a1, a2, a3, a4, a5, a6, a8, a7⟩
      exact ⟨_, a7, fnd, wk, ss, FL, v4, v5, v6, v7, e, a1, a2, a3, a4, a5, a6, a8, rfl⟩
    rw [msr_snoc]
    dsimp only
    have elast : ((wk' ++ [a]).map V.ref)[((wk' ++ [a]).map V.ref).length - 1]? = some (.ref a) := by
      rw [List.map_append, List.length_append]
      show (wk'.map V.ref ++ [V.ref a])[(wk'.map V.ref).length + 1 - 1]? = _
      rw [Nat.add_sub_cancel, List.getElem?_append_right (Nat.le_refl _), Nat.sub_self]; rfl
    have edrop : ((wk' ++ [a]).map V.ref).dropLast = wk'.map V.ref := by rw [List.map_append]; exact List.dropLast_concat ..
    have k1 : KeepU G (upd G wo (.lst ((wk' ++ [a]).map V.ref).dropLast)) := KeepU.lst hwo
    have b1 : ∀ c o, H c = some o → upd G wo (.lst ((wk' ++ [a]).map V.ref).dropLast) c = some o := fun c o e => by
      rw [upd_ne (fun y => by rw [y, wo0] at e; cases e)]; exact sG _ _ e
    have w1 : upd G wo (.lst ((wk' ++ [a]).map V.ref).dropLast) wo = some (.lst (wk'.map V.ref)) := by rw [upd_same, edrop]
    have fo1 : upd G wo (.lst ((wk' ++ [a]).map V.ref).dropLast) fo = some (.lst (fnd.map V.ref)) := by rw [upd_ne nfw]; exact hfo
    refine ⟨_, rfl, .inl ⟨rfl, _, SqL.of hwo⟩, wo, _, _, rfl, rfl, hwo, elast, ?_⟩
    generalize upd G wo (.lst ((wk' ++ [a]).map V.ref).dropLast) = G1 at *
    have sG1 : Same H G1 := b1
    refine ⟨a, _, rfl, SqT.of (k1 _ _ ha), rfl, _, _, rfl, _, _, rfl, rfl, ?_⟩
    refine ⟨_, rfl, _, rfl, _, rfl, fa, ja, s0, ds, jmp, rfl, hF.same sG1, sG1 _ _ hJ, J, few, fun m G2 hsm hst hne s2' => ?_⟩
    have sG2 := sG1.trans s2'
    have k2 : KeepU G G2 := k1.trans (KeepU.of s2')
    have hF2 := hF.same sG2
    obtain ⟨xs, hxs, tds⟩ := hF2.ex
    have fo2 := s2' _ _ fo1
    have w2 := s2' _ _ w1
    have hwa2 := hwa.keep k2
    have WL2 := WL'.keep k2
    have fnd2 := hfnd.keep k2
    have p0 : 1 ≤ 2 ^ ifsFrom ds s0 := Nat.one_le_two_pow
    have p3 : 1 ≤ 3 ^ (ds.length + 1 - s0) := Nat.one_le_pow _ _ (by decide)
    refine ⟨_, rfl, _, rfl, fa, _, rfl, .inl (SqL.of hxs), _, _, rfl, rfl, _, rfl, ?_⟩
    rw [tds.len]
    by_cases hle : m < ds.length
    · refine iteN (show ¬ (ds.length : Int) < (m : Int) + 1 by omega) ?_
      obtain ⟨xs', af, ys, hxs', lx, hv, haf, _⟩ := hF2.head hle
      have ex : xs = xs' := by rw [hxs] at hxs'; cases hxs'; rfl
      subst ex
      obtain ⟨hls, hll, hlk⟩ := hwa2
      refine ⟨fun τ G3 => ∃ wb, τ = [some (.ref fa), some (.ref ja), some (.ref fo), some (.ref wo), some (.int ((s0 : Int) + 1)), some (.ref wb), some (.int ((m : Int) + 1)), v7] ∧ Same G2 G3 ∧ WayAt G3 wb ds.length (m + 1) (ls ++ [m]), ?_, ?_⟩
      · refine ⟨_, rfl, _, rfl, (by show 1 ≤ sizeLine; decide), fun t ht => ?_⟩
        have s3' : Same G2 _ := same_new (o := .tup [V.int ((m : Int) + 1)]) ht
        have t3' : upd G2 t (.tup [V.int ((m : Int) + 1)]) t = some (.tup [V.int ((m : Int) + 1)]) := upd_same
        show rCatA _ _ _ (upd G2 t (.tup [V.int ((m : Int) + 1)])) _
        generalize upd G2 t (.tup [V.int ((m : Int) + 1)]) = G3 at *
        refine ⟨wa, t, wayV ls, [V.int ((m : Int) + 1)], rfl, rfl, SqT.of (s3' _ _ hls), SqT.of t3', ?_, fun hn => ⟨t, rfl, s3', ?_⟩, (fun _ h => by cases h), fun _ _ p hp => ⟨p, rfl, s3'.trans (same_new hp), ⟨?_, fun l h => ?_, ?_⟩⟩⟩
        · unfold wayV
          rw [List.length_map, sizeLine_eq]
          show ls.length + 1 ≤ _
          omega
        · have : ls = [] := by unfold wayV at hn; exact List.map_eq_nil_iff.mp hn
          subst this
          exact ⟨t3', fun l h => by rw [List.mem_singleton.mp h]; exact hle, by show 1 ≤ m + 1; omega⟩
        · rw [upd_same]; unfold wayV; rw [List.map_append]; rfl
        · rcases List.mem_append.mp h with h | h
          · exact hll l h
          · rw [List.mem_singleton.mp h]; exact hle
        · rw [List.length_append]; show ls.length + 1 ≤ _; omega
      rintro τ G3 ⟨wb, rfl, s3', hwb⟩
      have sG3 := sG2.trans s3'
      have fo3 := s3' _ _ fo2
      have w3 := s3' _ _ w2
      have WL3 := WL2.keep (KeepU.of s3')
      have fnd3 := fnd2.keep (KeepU.of s3')
      have m1 : 3 ^ (ds.length + 1 - m) ≤ 3 ^ (ds.length + 1 - s0) := pow_le3 (by omega)
      have m2 : 3 ^ (ds.length + 1 - m) = 3 * 3 ^ (ds.length - m) := by
        rw [show ds.length + 1 - m = (ds.length - m) + 1 by omega, Nat.pow_succ]; omega
      have m3 : 1 ≤ 3 ^ (ds.length - m) := Nat.one_le_pow _ _ (by decide)
      have w0 : 2 ^ ifsFrom ds m ≤ 2 ^ ifsFrom ds s0 := pow_le2 (ifs_mono ds hsm)
      refine ⟨_, rfl, _, rfl, _, _, rfl, rfl, fa, xs, _, .ref af, rfl, rfl, SqL.of (s3' _ _ hxs), at_nat hv, af, _, _, .str (headW (ds.getD m .none)), rfl, rfl, Same.tup s3' haf, at_hd _ _, ?_⟩
      refine ⟨_, rfl, ep, _, rfl, .inr tE.sq, rfl, flat_strs endL, _, rfl, ?_⟩
      rw [in_strs]
      by_cases hend : headW (ds.getD m .none) ∈ endL
      · have ku : KeepU G3 (upd G3 fo (.lst (fnd.map V.ref ++ [.ref wb]))) := KeepU.lst fo3
        refine iteY hend ⟨_, rfl, .inl ⟨rfl, _, SqL.of fo3⟩, _, rfl, fo, _, _, rfl, rfl, fo3, (by rw [List.length_map, sizeLine_eq]; omega), ?_⟩
        refine ⟨fnd ++ [wb], wk', ss', FL ++ [ls ++ [m]], _, _, _, _, rfl, fun c o e => ?_, ?_, ?_, WaysL.snoc (hwb.keep ku) (fnd3.keep ku), WI.ends hst hle hend, WL3.keep ku, ?_, by omega⟩
        · rw [upd_ne (fun y => by rw [y, fo0] at e; cases e)]; exact sG3 _ _ e
        · rw [upd_same, List.map_append]; rfl
        · rw [upd_ne nfw.symm]; exact w3
        · rw [List.length_append]; simp only [List.length_cons, List.length_nil]; omega
      refine iteN hend ?_
      refine ⟨fun τ G4 => ∃ (wk2 : List Addr) (ss2 : List (Nat × List Nat)), τ = [some (.ref fa), some (.ref ja), some (.ref fo), some (.ref wo), some (.int ((s0 : Int) + 1)), some (.ref wb), some (.int ((m : Int) + 1)), some (.str (headW (ds.getD m .none)))] ∧ Same H G4 ∧ G4 fo = some (.lst (fnd.map V.ref)) ∧ G4 wo = some (.lst (wk2.map V.ref)) ∧
        WaysL G4 ds.length fnd FL ∧ WInv ds jmp FL (ss2 ++ [(m + 1, ls ++ [m])]) ∧ WayAt G4 wb ds.length (m + 1) (ls ++ [m]) ∧ WorkL G4 ds.length wk2 ss2 ∧ wgt ds ss2 + 2 ^ ifsFrom ds (m + 1) ≤ wgt ds ss' + 2 ^ ifsFrom ds s0 ∧ msr ds.length ss2 + 3 ^ (ds.length - m) < msr ds.length ss' + 3 ^ (ds.length + 1 - s0), ?_, ?_⟩
      · refine ⟨_, rfl, rfl, _, rfl, ?_⟩
        rw [dec_str]
        by_cases hif2 : headW (ds.getD m .none) = "if"
        · obtain ⟨j, hj, hlt⟩ := J m hle (.inl hif2)
          have dg := DGet.k (k := Sum.inl ((m : Int) + 1)) (sG3 _ _ hJ)
          rw [hj] at dg
          have wl : wk'.length = ss'.length := WL'.len
          have wss : ss'.length ≤ wgt ds ss' := by
            unfold wgt
            clear WL' WL WL2 WL3 hw wl WI
            induction ss' with
            | nil => exact Nat.le_refl _
            | cons q qs ih =>
              simp only [List.map_cons, List.sum_cons, List.length_cons]
              have : 1 ≤ 2 ^ ifsFrom ds q.1 := Nat.one_le_two_pow
              omega
          refine iteY hif2 ⟨_, rfl, .inl ⟨rfl, _, SqL.of w3⟩, _, rfl, _, rfl, ja, _, rfl, dg, _, rfl, (by show 2 ≤ sizeLine; decide), fun t ht => ?_⟩
          have s5 : Same G3 _ := same_new (o := .tup [.int j, .ref wb]) ht
          have t5 : upd G3 t (.tup [.int j, .ref wb]) t = some (.tup [.int j, .ref wb]) := upd_same
          generalize upd G3 t (.tup [.int j, .ref wb]) = G5 at *
          have w5 := s5 _ _ w3
          have ku : KeepU G5 (upd G5 wo (.lst (wk'.map V.ref ++ [.ref t]))) := KeepU.lst w5
          have k35 := (KeepU.of s5).trans ku
          have ej : (((j - 1).toNat : Nat) : Int) + 1 = j := by omega
          refine ⟨wo, _, _, rfl, rfl, w5, (by rw [List.length_map, wl, sizeLine_eq]; omega), ?_⟩
          refine ⟨wk' ++ [t], ss' ++ [((j - 1).toNat, ls ++ [m])], rfl, fun c o e => ?_, ?_, ?_, fnd3.keep k35, WI.iff hst hle hif2 (by rw [hj, ej]), hwb.keep k35, WorkL.snoc ⟨wb, ?_, (hwb.keep k35).more (by show m + 1 ≤ (j - 1).toNat; omega)⟩ (WL3.keep k35), ?_, ?_⟩
          · rw [upd_ne (fun y => by rw [y, wo0] at e; cases e)]; exact s5 _ _ (sG3 _ _ e)
          · rw [upd_ne nfw]; exact s5 _ _ fo3
          · rw [upd_same, List.map_append]; rfl
          · rw [ej]; exact ku _ _ t5
          · have a1 := ifs_at ds hle hif2
            have a2 : 2 ^ ifsFrom ds (j - 1).toNat ≤ 2 ^ ifsFrom ds (m + 1) := pow_le2 (ifs_mono ds (by omega))
            have a3 : 2 ^ (ifsFrom ds (m + 1) + 1) ≤ 2 ^ ifsFrom ds m := pow_le2 a1
            rw [Nat.pow_succ] at a3
            rw [wgt_snoc]
            dsimp only
            omega
          · have a4 : 3 ^ (ds.length + 1 - (j - 1).toNat) ≤ 3 ^ (ds.length - m) := pow_le3 (by omega)
            rw [msr_snoc]
            dsimp only
            omega
        · refine iteN hif2 ⟨wk', ss', rfl, sG3, fo3, w3, fnd3, WI.plain hst hle hend hif2, hwb, WL3, ?_, by omega⟩
          have a2 : 2 ^ ifsFrom ds (m + 1) ≤ 2 ^ ifsFrom ds m := pow_le2 (ifs_mono ds (by omega))
          omega
      rintro τ G4 ⟨wk2, ss2, rfl, sG4, fo4, w4', fnd4, WI4, hwb4, WL4, hwg, hms⟩
      have pv1 : 1 ≤ 2 ^ ifsFrom ds (m + 1) := Nat.one_le_two_pow
      have wss2 : ss2.length ≤ wgt ds ss2 := by
        unfold wgt
        clear WL4 hwg hms WI4
        induction ss2 with
        | nil => exact Nat.le_refl _
        | cons q qs ih =>
          simp only [List.map_cons, List.sum_cons, List.length_cons]
          have : 1 ≤ 2 ^ ifsFrom ds q.1 := Nat.one_le_two_pow
          omega
      refine ⟨_, rfl, .inl ⟨rfl, _, SqL.of w4'⟩, _, rfl, _, _, rfl, rfl, _, rfl, (by show 2 ≤ sizeLine; decide), fun t ht => ?_⟩
      have s5 : Same G4 _ := same_new (o := .tup [.int ((m : Int) + 1 + 1), .ref wb]) ht
      have t5 : upd G4 t (.tup [.int ((m : Int) + 1 + 1), .ref wb]) t = some (.tup [.int ((m : Int) + 1 + 1), .ref wb]) := upd_same
      generalize upd G4 t (.tup [.int ((m : Int) + 1 + 1), .ref wb]) = G5 at *
      have w5 := s5 _ _ w4'
      have ku : KeepU G5 (upd G5 wo (.lst (wk2.map V.ref ++ [.ref t]))) := KeepU.lst w5
      have k45 := (KeepU.of s5).trans ku
      refine ⟨wo, _, _, rfl, rfl, w5, (by rw [List.length_map, WL4.len, sizeLine_eq]; omega), ?_⟩
      refine ⟨fnd, wk2 ++ [t], ss2 ++ [(m + 1, ls ++ [m])], FL, _, _, _, _, rfl, fun c o e => ?_, ?_, ?_, fnd4.keep k45, WI4, WorkL.snoc ⟨wb, ?_, hwb4.keep k45⟩ (WL4.keep k45), ?_, ?_⟩
      · rw [upd_ne (fun y => by rw [y, wo0] at e; cases e)]; exact s5 _ _ (sG4 _ _ e)
      · rw [upd_ne nfw]; exact s5 _ _ fo4
      · rw [upd_same, List.map_append]; rfl
      · rw [show (((m + 1 : Nat) : Int) + 1) = (m : Int) + 1 + 1 by omega]; exact ku _ _ t5
      · rw [wgt_snoc]; dsimp only; omega
      · rw [msr_snoc]
        dsimp only
        have : 3 ^ (ds.length + 1 - (m + 1)) = 3 ^ (ds.length - m) := by congr 1; omega
        omega
    · refine iteY (show (ds.length : Int) < (m : Int) + 1 by omega) ?_
      have ku : KeepU G2 (upd G2 fo (.lst (fnd.map V.ref ++ [.ref wa]))) := KeepU.lst fo2
      refine ⟨_, rfl, .inl ⟨rfl, _, SqL.of fo2⟩, _, rfl, fo, _, _, rfl, rfl, fo2, (by rw [List.length_map, sizeLine_eq]; omega), ?_⟩
      refine ⟨fnd ++ [wa], wk', ss', FL ++ [ls], _, _, _, _, rfl, fun c o e => ?_, ?_, ?_, WaysL.snoc (hwa2.keep ku) (fnd2.keep ku), WI.over hst (by omega), WL2.keep ku, ?_, by omega⟩
      · rw [upd_ne (fun y => by rw [y, fo0] at e; cases e)]; exact sG2 _ _ e
      · rw [upd_same, List.map_append]; rfl
      · rw [upd_ne nfw.symm]; exact w2
      · rw [List.length_append]; simp only [List.length_cons, List.length_nil]; omega
end
end IdL
namespace L2
open PySem PySem.Spec PyProof.Rows
/-- a test, cut off by what it comes to -/
def tCut (t : TT) : TT := fun σ H Q => ∃ J : Bool → Hp → Prop, t σ H J ∧ ∀ c G, J c G → Q c G
theorem pt_cut {X : Cx} {e : Expr} {t : TT} (h : PT X e t) : PT X e (tCut t) :=
  ⟨fun pins s σ H Q I ⟨J, h1, h2⟩ => thn (h.run pins s σ H J I h1) fun c s' ⟨H', I', q⟩ => ⟨H', I', h2 c H' q⟩⟩
/-- a value, cut off by what it comes to -/
def tCutE (t : TE) : TE := fun σ H Q => ∃ J : VK, t σ H J ∧ ∀ v G, J v G → Q v G
theorem pe_cut {X : Cx} {e : Expr} {t : TE} (h : PE X e t) : PE X e (tCutE t) :=
  ⟨fun pins s σ H Q I ⟨J, h1, h2⟩ => thn (h.run pins s σ H J I h1) fun u s' ⟨v, H', I', r, q⟩ => ⟨v, H', I', r, h2 v H' q⟩⟩
end L2
namespace IdL
open PySem L2 TL
/-! ### the lines of a book code -/
def namesB : List Str := ["size", "keep", "next", "many", "more", "own", "mark", "a", "b", "c"]
def fieldsB : List Str := ["next", "many", "more", "own", "mark"]
def regsB : List Str := ["a", "b", "c"]
def placesB : List Str := ["a", "b", "c", "next", "mark"]
def wordsB : List Str := ["else", "end", "no", "quit"]
structure GloB (K : PySem.W.Frag) (mg : Str → Option Value) : Prop where
  names : ∃ p, mg "NAMES" = some (.ref p) ∧ KTup K p (namesB.map V.str)
  regs : ∃ p, mg "REGISTERS" = some (.ref p) ∧ KTup K p (regsB.map V.str)
  fields : ∃ p, mg "FIELDS" = some (.ref p) ∧ KTup K p (fieldsB.map V.str)
  places : ∃ p, mg "PLACES" = some (.ref p) ∧ KTup K p (placesB.map V.str)
  words : ∃ p, mg "WORDS" = some (.ref p) ∧ KTup K p (wordsB.map V.str)
structure FSum (K : PySem.W.Frag) (mg : Str → Option Value) (f : Addr) (d : FuncData) : Prop where
  u : Fun K "read_sum" "read_sum" sSum f d
  b : Binds K d ["words", "names"] []
  g : mg "read_sum" = some (.ref f)
def sealD (tg : Str) (ws : List Str) : PyData := if tg ∉ regsB ∨ ws.length ≠ 2 ∨ ws.getD 1 "" ∉ placesB then .none else .tuple [.str "sealed", .str tg, .str (ws.getD 1 "")]
abbrev sSeal : Stmt := top 51
theorem scSeal : FnScope ["target", "words"] ["target", "words"] (defScope sSeal) := ⟨rfl, rfl, rfl, by decide +kernel, rfl, by decide +kernel, by decide +kernel⟩
def spTW (K : PySem.W.Frag) (D : Str → List Str → PyData) : Sp := fun vs H Q _ => ∃ (tg : Str) (wl : Addr) (ws : List Str), vs = [.str tg, .ref wl] ∧ SqL K H wl (ws.map V.str) ∧ Plain ws ∧ ws ≠ [] ∧
  ∀ v H', Same H H' → TD K H' v (D tg ws) → Q v H'
theorem at_n {ws : List Str} {n : Nat} (h : n < ws.length) : atI (ws.map V.str) (n : Int) = some (.str (ws.getD n "")) := by
  refine atI_nat ?_
  rw [List.getElem?_map, List.getD_eq_getElem?_getD, List.getElem?_eq_getElem h]; rfl
section
variable {P : Program} {w : World} {K : PySem.W.Frag} {mg : Str → Option Value} {base : Heap}
theorem ok_seal {f : Addr} {fd : FuncData} (F : Fun K "read_sealed" "read_sealed" sSeal f fd) (T : Glo mg) (G : GloB K mg) : FnOk P w K mg base CX0 1 f fd ["target", "words"] (spTW K sealD) := by
  obtain ⟨rp, gR, tR⟩ := G.regs
  obtain ⟨pp, gP, tP⟩ := G.places
  refine F.ok scSeal (fun vs H Q E h => ?_) (fun cdv A outer s H vs Q E hr h => ?_)
  · obtain ⟨tg, wl, ws, rfl, _⟩ := h
    rfl
  · obtain ⟨tg, wl, ws, rfl, hw, pl, ne, k⟩ := h
    refine ⟨_, (pss_cons (ps_if (pt_cut (PW.pt (pw_or (pt_cmpR op_notIn_seq (pv 0) (pe_glob rfl gR (v := .ref rp) rfl) (by rfl)) (pw_or (pt_cmpR op_ne (pe_callB call_len_seq (by rfl) T.len PySem.boot_len (pa_cons (pv 1) pa_nil)) pe_int (nomark _)) (pw_or1 (pt_cmpR op_notIn_seq (pe_ix ix_list (pv 1) pe_int (fun _ _ => rfl)) (pe_glob rfl gP (v := .ref pp) rfl) (by rfl))))))) (pss_one (ps_ret pe_non)) pss_nil)
 (pss_one (ps_ret (pe_tup (pa_cons pe_str (pa_cons (pv 0) (pa_cons (pe_ix ix_list (pv 1) pe_int (fun _ _ => rfl)) pa_nil))))))), ?_⟩
    refine ⟨fun c G => G = H ∧ (c = true ↔ (tg ∉ regsB ∨ ws.length ≠ 2 ∨ ws.getD 1 "" ∉ placesB)), ?_, ?_⟩
    · refine ⟨_, rfl, rp, _, rfl, .inr tR.sq, rfl, flat_strs regsB, _, rfl, ?_⟩
      rw [in_strs]
      by_cases h1 : tg ∈ regsB
      · refine iteNS h1 ⟨_, rfl, wl, _, rfl, .inl hw, rfl, _, rfl, ?_⟩
        rw [dec_i, List.length_map]
        by_cases h2 : ws.length = 2
        · refine iteNS (by omega) ⟨_, rfl, wl, _, _, .str (ws.getD 1 ""), rfl, rfl, hw, at_n (n := 1) (by omega), pp, _, rfl, .inr tP.sq, rfl, flat_strs placesB, _, rfl, ?_⟩
          rw [in_strs]
          by_cases h3 : ws.getD 1 "" ∈ placesB
          · rw [decide_eq_true h3]
            exact ⟨rfl, ⟨fun y => (nomatch y), fun y => (y.elim (fun z => absurd h1 z) fun z => z.elim (fun z => absurd h2 z) fun z => absurd h3 z)⟩⟩
          · rw [decide_eq_false h3]
            exact ⟨rfl, ⟨fun _ => .inr (.inr h3), fun _ => rfl⟩⟩
        · exact iteNN (by omega) ⟨rfl, ⟨fun _ => .inr (.inl h2), fun _ => rfl⟩⟩
      · exact iteNN h1 ⟨rfl, ⟨fun _ => .inl h1, fun _ => rfl⟩⟩
    rintro c G ⟨rfl, hc⟩
    have kk : ∀ v H', Same G H' → TD K H' v (if tg ∉ regsB ∨ ws.length ≠ 2 ∨ ws.getD 1 "" ∉ placesB then .none else .tuple [.str "sealed", .str tg, .str (ws.getD 1 "")]) → Q v H' := k
    cases c with
    | true =>
      rw [if_pos (hc.mp rfl)] at kk
      exact iteT (kk _ _ (Same.refl _) .non)
    | false =>
      have hn := fun y => (nomatch (hc.mpr y) : False)
      rw [if_neg hn] at kk
      have h2 : ws.length = 2 := Decidable.byContradiction fun z => hn (.inr (.inl z))
      refine iteF ⟨_, rfl, _, rfl, wl, _, _, .str (ws.getD 1 ""), rfl, rfl, hw, at_n (n := 1) (by omega), (by show 3 ≤ sizeLine; decide), fun t ht => ?_⟩
      exact kk _ _ (same_new ht) (.tup (SqT.of upd_same) (.cons (.str _) (.cons (.str _) (.cons (.str _) .nil))))
end
end IdL
namespace IdL
open PySem L2 TL
structure FSeal (K : PySem.W.Frag) (mg : Str → Option Value) (f : Addr) (d : FuncData) : Prop where
  u : Fun K "read_sealed" "read_sealed" sSeal f d
  b : Binds K d ["target", "words"] []
  g : mg "read_sealed" = some (.ref f)
def wordB (ws : List Str) : Str := if ws.getD 0 "" = "wrap" then "wrap" else "set"
def restB (ws : List Str) : List Str := if ws.getD 0 "" = "wrap" then ws.drop 1 else ws
def settB (tg : Str) (ws : List Str) : PyData := if tg ∉ fieldsB ∧ tg ∉ regsB then .none else if ws.getD 0 "" = "sealed" then sealD tg ws
  else if isNoneD (sumD (restB ws) namesB) = true then .none else .tuple [.str (wordB ws), .str tg, sumD (restB ws) namesB]
abbrev sSett : Stmt := top 52
theorem scSett : FnScope ["target", "words", "word", "terms"] ["target", "words"] (defScope sSett) := ⟨rfl, rfl, rfl, by decide +kernel, rfl, by decide +kernel, by decide +kernel⟩
theorem rest_pl {ws : List Str} (pl : Plain ws) : Plain (restB ws) := by
  unfold restB
  split
  · exact pl.drop 1
  · exact pl
theorem eq_strs {K : PySem.W.Frag} {H : Hp} {p q : Addr} {ws vs : List Str} (hw : ∀ z ∈ ws, PyData.strOk z = true) (hv : ∀ z ∈ vs, PyData.strOk z = true) (hp : SqL K H p (ws.map V.str)) (hq : SqL K H q (vs.map V.str)) {Q : VK} (k : Q (.bl (decide (ws = vs))) H) : rEqD K (.ref p) (.ref q) H Q := by
  refine ⟨.list _, .list _, .lst hp (strs_dp ws), .lst hq (strs_dp vs), strs_shaped hw, strs_shaped hv, ?_⟩
  show Q (.bl (PyData.eqvAll (ws.map PyData.str) (vs.map PyData.str))) H
  rw [eqv_strs]
  exact k
theorem cut_last (l : List V) (k : Nat) (h : 0 < k) : cutV l (some (-(k : Int))) none = l.drop (l.length - k) := by
  unfold cutV
  have e1 : HT.sIx l.length l.length none = l.length := HT.sIx_none _ _
  have e2 : HT.sIx l.length 0 (some (-(k : Int))) = l.length - k := by
    show (if (-(k : Int)) < 0 then (-(k : Int) + (l.length : Int)).toNat else _) = _
    rw [if_pos (by omega)]
    omega
  rw [e1, e2]
  exact List.take_of_length_le (by rw [List.length_drop]; omega)
section
variable {P : Program} {w : World} {K : PySem.W.Frag} {mg : Str → Option Value} {base : Heap}
theorem ok_sett {f fE fS : Addr} {fd dE dS : FuncData} (F : Fun K "read_setting" "read_setting" sSett f fd) (L : FSeal K mg fE dE) (S : FSum K mg fS dS) (OS : FnOk P w K mg base CX0 3 fS dS ["words", "names"] (spSum K)) (T : Glo mg) (G : GloB K mg) : FnOk P w K mg base CX0 4 f fd ["target", "words"] (spTW K settB) := by
  have OL : FnOk P w K mg base CX0 1 fE dE ["target", "words"] (spTW K sealD) := ok_seal L.u T G
  obtain ⟨np, gN, tN⟩ := G.names
  obtain ⟨rp, gR, tR⟩ := G.regs
  obtain ⟨fp, gF, tF⟩ := G.fields
  refine F.ok scSett (fun vs H Q E h => ?_) (fun cdv A outer s H vs Q E hr h => ?_)
  · obtain ⟨tg, wl, ws, rfl, _⟩ := h
    rfl
  · obtain ⟨tg, wl, ws, rfl, hw, pl, ne, k⟩ := h
    have hr1 := hr.mono (show 1 ≤ 3 by decide)
    refine ⟨_, (pss_cons (ps_if (pt_cut (PW.pt (pw_and (pt_cmpR op_notIn_seq (pv 0) (pe_glob rfl gF (v := .ref fp) rfl) (by rfl)) (pw_and1 (pt_cmpR op_notIn_seq (pv 0) (pe_glob rfl gR (v := .ref rp) rfl) (by rfl)))))) (pss_one (ps_ret pe_non)) pss_nil)
 (pss_cons (ps_if (pt_cmpR op_eq (pe_ix ix_list (pv 1) pe_int (fun _ _ => rfl)) pe_str (nomark _)) (pss_one (ps_ret (pe_call OL hr1 rfl L.g L.u.kp L.b .nil pass0 (pa_cons (pv 0) (pa_cons (pv 1) pa_nil))))) pss_nil)
 (pss_cons (ps_set (i := 2) scSett.nd rfl (.inl rfl) (pe_cut (pe_ifExp (pt_cmpR op_eq (pe_ix ix_list (pv 1) pe_int (fun _ _ => rfl)) pe_str (nomark _)) pe_str pe_str)))
 (pss_cons (ps_set (i := 3) scSett.nd rfl (.inl rfl) (pe_call OS hr rfl S.g S.u.kp S.b .nil pass0 (pa_cons (pe_cut (pe_ifExp (pt_cmpR op_eq (pv 2) pe_str (nomark _)) (pe_slice sl_list (pv 1) (po_some pe_int) po_none) (pv 1))) (pa_cons (pe_glob rfl gN (v := .ref np) rfl) pa_nil))))
 (pss_one (ps_ret (pe_ifExp (pt_cmpR op_isN (pv 3) pe_non (nomark _)) pe_non (pe_tup (pa_cons (pv 2) (pa_cons (pv 0) (pa_cons (pv 3) pa_nil))))))))))), ?_⟩
    have l0 : 0 < ws.length := List.length_pos_iff.mpr ne
    have at0 : atI (ws.map V.str) 0 = some (.str (ws.getD 0 "")) := at_n (n := 0) l0
    refine ⟨fun c G => G = H ∧ (c = true ↔ (tg ∉ fieldsB ∧ tg ∉ regsB)), ?_, ?_⟩
    · refine ⟨_, rfl, fp, _, rfl, .inr tF.sq, rfl, flat_strs fieldsB, _, rfl, ?_⟩
      rw [in_strs]
      by_cases h2 : tg ∈ fieldsB
      · refine iteNS h2 ⟨rfl, ⟨fun y => (nomatch y), fun y => absurd h2 y.1⟩⟩
      refine iteNN h2 ⟨_, rfl, rp, _, rfl, .inr tR.sq, rfl, flat_strs regsB, _, rfl, ?_⟩
      rw [in_strs]
      by_cases h3 : tg ∈ regsB
      · rw [decide_eq_true h3]
        exact ⟨rfl, ⟨fun y => (nomatch y), fun y => absurd h3 y.2⟩⟩
      · rw [decide_eq_false h3]
        exact ⟨rfl, ⟨fun _ => ⟨h2, h3⟩, fun _ => rfl⟩⟩
    rintro c G1 ⟨rfl, hc⟩
    have kk : ∀ v H', Same G1 H' → TD K H' v (if tg ∉ fieldsB ∧ tg ∉ regsB then .none else if ws.getD 0 "" = "sealed" then sealD tg ws else if isNoneD (sumD (restB ws) namesB) = true then .none else .tuple [.str (wordB ws), .str tg, sumD (restB ws) namesB]) → Q v H' := k
    cases c with
    | true =>
      rw [if_pos (hc.mp rfl)] at kk
      exact iteT (kk _ _ (Same.refl _) .non)
    | false =>
    rw [if_neg (fun y => nomatch (hc.mpr y))] at kk
    refine iteF ⟨_, rfl, wl, _, _, .str (ws.getD 0 ""), rfl, rfl, hw, at0, rfl, _, rfl, ?_⟩
    rw [dec_str]
    by_cases h4 : ws.getD 0 "" = "sealed"
    · rw [if_pos h4] at kk
      exact iteY h4 ⟨_, rfl, _, rfl, tg, wl, ws, rfl, hw, pl, ne, fun v H2 s2 td => kk v _ s2 td⟩
    rw [if_neg h4] at kk
    refine iteN h4 ⟨fun v G => v = .str (wordB ws) ∧ G = G1, ?_, ?_⟩
    · refine ⟨_, rfl, wl, _, _, .str (ws.getD 0 ""), rfl, rfl, hw, at0, rfl, _, rfl, ?_⟩
      rw [dec_str]
      unfold wordB
      by_cases h5 : ws.getD 0 "" = "wrap"
      · exact iteY h5 ⟨by rw [if_pos h5], rfl⟩
      · exact iteN h5 ⟨by rw [if_neg h5], rfl⟩
    rintro v G2 ⟨rfl, rfl⟩
    refine ⟨fun v G => ∃ p, v = .ref p ∧ Same G2 G ∧ SqL K G p ((restB ws).map V.str), ?_, ?_⟩
    · refine ⟨_, rfl, rfl, _, rfl, ?_⟩
      rw [dec_str]
      unfold wordB restB
      by_cases h5 : ws.getD 0 "" = "wrap"
      · rw [if_pos h5, if_pos h5]
        refine iteY rfl ⟨_, rfl, _, rfl, wl, _, rfl, hw, fun p hp => ⟨p, rfl, same_new hp, ?_⟩⟩
        refine SqL.of ?_
        rw [upd_same, show cutV (ws.map V.str) (some 1) none = (ws.map V.str).drop 1 from cut_from _ 1, List.map_drop]
      · rw [if_neg h5, if_neg h5]
        exact iteN (by decide +kernel) ⟨_, rfl, wl, rfl, Same.refl _, hw⟩
    rintro v G3 ⟨p, rfl, s3, hp⟩
    refine ⟨p, np, restB ws, namesB, rfl, hp, tN.sq, rest_pl pl, fun v H4 s4 td => ?_⟩
    generalize sumD (restB ws) namesB = sd at *
    have s24 := s3.trans s4
    refine ⟨_, rfl, rfl, _, rfl, ?_⟩
    by_cases hv : v = .non
    · rw [if_pos (td.isN.mp hv)] at kk
      exact iteY hv (kk _ _ s24 .non)
    · rw [if_neg fun y => hv (td.isN.mpr y)] at kk
      refine iteN hv ⟨_, rfl, _, rfl, _, rfl, (by show 3 ≤ sizeLine; decide), fun t ht => ?_⟩
      exact kk _ _ (s24.trans (same_new ht)) (.tup (SqT.of upd_same) (.cons (.str _) (.cons (.str _) (.cons (td.keep (KeepT.of (same_new ht))) .nil))))
end
end IdL
namespace IdL
open PySem L2 TL
def timesL : List Str := ["times"]
def initL (ws : List Str) : List Str := ws.take (ws.length - 1)
def moveD (wd : Str) (ws : List Str) : PyData := if ws.length = 2 ∧ ws.getD 0 "" = "until" then (if ws.getD 1 "" ∈ placesB then .tuple [.str wd, .str "until", .str (ws.getD 1 "")] else .none)
  else if ws.drop (ws.length - 1) = timesL then (if isNoneD (sumD (initL ws) namesB) = true then .none else .tuple [.str wd, .str "times", sumD (initL ws) namesB]) else .none
abbrev sMove : Stmt := top 53
theorem scMove : FnScope ["word", "words", "terms"] ["word", "words"] (defScope sMove) := ⟨rfl, rfl, rfl, by decide +kernel, rfl, by decide +kernel, by decide +kernel⟩
def spWW (K : PySem.W.Frag) (D : Str → List Str → PyData) : Sp := fun vs H Q _ => ∃ (tg : Str) (wl : Addr) (ws : List Str), vs = [.str tg, .ref wl] ∧ SqL K H wl (ws.map V.str) ∧ Plain ws ∧
  ∀ v H', Same H H' → TD K H' v (D tg ws) → Q v H'
section
variable {P : Program} {w : World} {K : PySem.W.Frag} {mg : Str → Option Value} {base : Heap}
theorem ok_move {f fS : Addr} {fd dS : FuncData} (F : Fun K "read_move" "read_move" sMove f fd) (S : FSum K mg fS dS) (OS : FnOk P w K mg base CX0 3 fS dS ["words", "names"] (spSum K)) (T : Glo mg) (G : GloB K mg) : FnOk P w K mg base CX0 4 f fd ["word", "words"] (spWW K moveD) := by
  obtain ⟨np, gN, tN⟩ := G.names
  obtain ⟨pp, gP, tP⟩ := G.places
  refine F.ok scMove (fun vs H Q E h => ?_) (fun cdv A outer s H vs Q E hr h => ?_)
  · obtain ⟨tg, wl, ws, rfl, _⟩ := h
    rfl
  · obtain ⟨tg, wl, ws, rfl, hw, pl, k⟩ := h
    refine ⟨_, (pss_join (ps_if (PW.pt (pw_and (pt_cmpR op_eq (pe_callB call_len_seq (by rfl) T.len PySem.boot_len (pa_cons (pv 1) pa_nil)) pe_int (nomark _)) (pw_and1 (pt_cmpR op_eq (pe_ix ix_list (pv 1) pe_int (fun _ _ => rfl)) pe_str (nomark _)))))
        (pss_one (ps_ret (pe_ifExp (pt_cmpR op_in_seq (pe_ix ix_list (pv 1) pe_int (fun _ _ => rfl)) (pe_glob rfl gP (v := .ref pp) rfl) (by rfl)) (pe_tup (pa_cons (pv 0) (pa_cons pe_str (pa_cons (pe_ix ix_list (pv 1) pe_int (fun _ _ => rfl)) pa_nil)))) pe_non))) pss_nil)
 (pss_join (ps_set (i := 2) scMove.nd rfl (.inl rfl) (pe_ifExp (pt_cmpR (op_eqD hr.units) (pe_slice (r := rSlL K) sl_list (pv 1) (po_some (pe_un un_neg pe_int)) po_none) (pe_lst (pa_cons pe_str pa_nil)) (nomark _)) (pe_call OS hr rfl S.g S.u.kp S.b .nil pass0 (pa_cons (pe_slice (r := rSlL K) sl_list (pv 1) po_none (po_some (pe_un un_neg pe_int))) (pa_cons (pe_glob rfl gN (v := .ref np) rfl) pa_nil))) pe_non))
 (pss_one (ps_ret (pe_ifExp (pt_cmpR op_isN (pv 2) pe_non (nomark _)) pe_non (pe_tup (pa_cons (pv 0) (pa_cons pe_str (pa_cons (pv 2) pa_nil))))))))), ?_⟩
    have kk : ∀ v H', Same H H' → TD K H' v (if ws.length = 2 ∧ ws.getD 0 "" = "until" then (if ws.getD 1 "" ∈ placesB then .tuple [.str tg, .str "until", .str (ws.getD 1 "")] else .none)
      else if ws.drop (ws.length - 1) = timesL then (if isNoneD (sumD (initL ws) namesB) = true then .none else .tuple [.str tg, .str "times", sumD (initL ws) namesB]) else .none) → Q v H' := k
    clear k
    have hok : ∀ z ∈ ws, PyData.strOk z = true := fun z hz => (pl.asc z hz).ok
    refine ⟨fun τ G1 => τ = [some (.str tg), some (.ref wl), none] ∧ G1 = H ∧ ¬ (ws.length = 2 ∧ ws.getD 0 "" = "until"), ?_, ?_⟩
    · refine ⟨_, rfl, wl, _, rfl, .inl hw, rfl, _, rfl, ?_⟩
      rw [dec_i, List.length_map]
      by_cases h1 : ws.length = 2
      · refine iteY (by omega) ⟨_, rfl, wl, _, _, .str (ws.getD 0 ""), rfl, rfl, hw, at_n (n := 0) (by omega), rfl, _, rfl, ?_⟩
        rw [dec_str]
        by_cases h2 : ws.getD 0 "" = "until"
        · rw [if_pos ⟨h1, h2⟩] at kk
          refine iteY h2 ⟨_, rfl, wl, _, _, .str (ws.getD 1 ""), rfl, rfl, hw, at_n (n := 1) (by omega), pp, _, rfl, .inr tP.sq, rfl, flat_strs placesB, _, rfl, ?_⟩
          rw [in_strs]
          by_cases h3 : ws.getD 1 "" ∈ placesB
          · rw [if_pos h3] at kk
            refine iteY h3 ⟨_, rfl, _, rfl, wl, _, _, .str (ws.getD 1 ""), rfl, rfl, hw, at_n (n := 1) (by omega), (by show 3 ≤ sizeLine; decide), fun t ht => ?_⟩
            exact kk _ _ (same_new ht) (.tup (SqT.of upd_same) (.cons (.str _) (.cons (.str _) (.cons (.str _) .nil))))
          · rw [if_neg h3] at kk
            exact iteN h3 (kk _ _ (Same.refl H) .non)
        · exact iteN h2 ⟨rfl, rfl, fun y => h2 y.2⟩
      · exact iteN (by omega) (iteF ⟨rfl, rfl, fun y => h1 y.1⟩)
    rintro τ G1 ⟨rfl, rfl, hn⟩
    rw [if_neg hn] at kk
    refine ⟨fun τ G => ∃ (v : V) (sd : PyData), τ = [some (.str tg), some (.ref wl), some v] ∧ Same G1 G ∧ TD K G v sd ∧ ∀ u H', Same G1 H' → TD K H' u (if isNoneD sd = true then .none else .tuple [.str tg, .str "times", sd]) → Q u H', ?_, ?_⟩
    · refine ⟨_, rfl, _, rfl, _, rfl, wl, _, rfl, hw, fun p hp => ?_⟩
      have s1 : Same G1 _ := same_new (o := .lst (cutV (ws.map V.str) (some (-1)) none)) hp
      have p1 : upd G1 p (.lst (cutV (ws.map V.str) (some (-1)) none)) p = some (.lst ((ws.drop (ws.length - 1)).map V.str)) := by
        rw [upd_same, show cutV (ws.map V.str) (some (-1)) none = (ws.map V.str).drop ((ws.map V.str).length - 1) from cut_last _ 1 (by decide), List.length_map, List.map_drop]
      refine ⟨(by show 1 ≤ sizeLine; decide), fun q hq => ?_⟩
      have s2 : Same (upd G1 p (.lst (cutV (ws.map V.str) (some (-1)) none))) _ := same_new (o := .lst (timesL.map V.str)) hq
      have p2 := s2 _ _ p1
      have q2 : upd (upd G1 p (.lst (cutV (ws.map V.str) (some (-1)) none))) q (.lst (timesL.map V.str)) q = some (.lst (timesL.map V.str)) := upd_same
      have s12 := s1.trans s2
      show rEqD _ _ _ (upd (upd G1 p (.lst (cutV (ws.map V.str) (some (-1)) none))) q (.lst (timesL.map V.str))) _
      generalize upd (upd G1 p (.lst (cutV (ws.map V.str) (some (-1)) none))) q (.lst (timesL.map V.str)) = G2 at *
      refine eq_strs (ws := ws.drop (ws.length - 1)) (vs := timesL) (fun z hz => hok z (List.mem_of_mem_drop hz)) (by decide +kernel) (SqL.of p2) (SqL.of q2) ⟨_, rfl, ?_⟩
      by_cases ht : ws.drop (ws.length - 1) = timesL
      · rw [if_pos ht] at kk
        have hne : 1 ≤ ws.length := by
          cases ws with
          | nil => cases ht
          | cons a b => exact Nat.le_add_left 1 _
        refine iteY ht ⟨_, rfl, _, rfl, _, rfl, wl, _, rfl, s12.seq hw, fun r hr' => ?_⟩
        have s3 : Same G2 _ := same_new (o := .lst (cutV (ws.map V.str) none (some (-1)))) hr'
        have p3 : upd G2 r (.lst (cutV (ws.map V.str) none (some (-1)))) r = some (.lst ((initL ws).map V.str)) := by
          rw [upd_same, show cutV (ws.map V.str) none (some (-1)) = (ws.map V.str).take ((ws.map V.str).length - 1) from cut_but _ 1 (by decide) (by rw [List.length_map]; exact hne), List.length_map]
          unfold initL
          rw [List.map_take]
        refine ⟨r, np, initL ws, namesB, rfl, SqL.of p3, tN.sq, pl.take _, fun v G4 s4 td => ?_⟩
        exact ⟨v, _, rfl, (s12.trans s3).trans s4, td, fun u H' s' t' => kk u H' s' t'⟩
      · rw [if_neg ht] at kk
        exact iteN ht ⟨.non, .none, rfl, s12, .non, fun u H' s' t' => kk u H' s' t'⟩
    rintro τ G2 ⟨v, sd, rfl, s2, td, k2⟩
    refine ⟨_, rfl, rfl, _, rfl, ?_⟩
    by_cases hv : v = .non
    · rw [if_pos (td.isN.mp hv)] at k2
      exact iteY hv (k2 _ _ s2 .non)
    · rw [if_neg fun y => hv (td.isN.mpr y)] at k2
      refine iteN hv ⟨_, rfl, _, rfl, (by show 3 ≤ sizeLine; decide), fun t ht => ?_⟩
      exact k2 _ _ (s2.trans (same_new ht)) (.tup (SqT.of upd_same) (.cons (.str _) (.cons (.str _) (.cons (td.keep (KeepT.of (same_new ht))) .nil))))
end
end IdL
namespace IdL
open PySem L2 TL
def bookD : List Str → PyData
  | [] => .none
  | x :: r => if x = "if" then (if isNoneD (testD r namesB []) = true then .none else .tuple [.str "if", testD r namesB []])
    else if x = "write" then (if (x :: r).length = 2 ∧ r.getD 0 "" ∈ placesB then .tuple [.str "write", .str (r.getD 0 "")] else .none)
    else if x = "back" ∨ x = "again" then moveD x r
    else if r = [] then (if x ∈ wordsB then .tuple [.str x] else .none)
    else if 2 < (x :: r).length ∧ r.getD 0 "" = "=" then settB x (r.drop 1) else .none
structure FSett (K : PySem.W.Frag) (mg : Str → Option Value) (f : Addr) (d : FuncData) : Prop where
  u : Fun K "read_setting" "read_setting" sSett f d
  b : Binds K d ["target", "words"] []
  g : mg "read_setting" = some (.ref f)
structure FMove (K : PySem.W.Frag) (mg : Str → Option Value) (f : Addr) (d : FuncData) : Prop where
  u : Fun K "read_move" "read_move" sMove f d
  b : Binds K d ["word", "words"] []
  g : mg "read_move" = some (.ref f)
structure FTest (K : PySem.W.Frag) (mg : Str → Option Value) (f : Addr) (d : FuncData) : Prop where
  u : Fun K "read_test" "read_test" sTest f d
  b : Binds K d ["words", "names", "phrases"] []
  g : mg "read_test" = some (.ref f)
abbrev sBl : Stmt := top 54
theorem scBl : FnScope ["words", "parts"] ["words"] (defScope sBl) := ⟨rfl, rfl, rfl, by decide +kernel, rfl, by decide +kernel, by decide +kernel⟩
theorem well_b : Well namesB [] := ⟨by decide +kernel, by decide +kernel⟩
def movesL : List Str := ["back", "again"]
section
variable {P : Program} {w : World} {K : PySem.W.Frag} {mg : Str → Option Value} {base : Heap}
theorem ok_bl {f fR fT fM : Addr} {fd dR dT dM : FuncData} (F : Fun K "read_book_line" "read_book_line" sBl f fd) (R : FTest K mg fT dT) (Se : FSett K mg fR dR) (M : FMove K mg fM dM) (OT : FnOk P w K mg base CX0 4 fT dT ["words", "names", "phrases"] (spTest K)) (OR : FnOk P w K mg base CX0 4 fR dR ["target", "words"] (spTW K settB)) (OM : FnOk P w K mg base CX0 4 fM dM ["word", "words"] (spWW K moveD)) (T : Glo mg) (G : GloB K mg) : FnOk P w K mg base CX0 5 f fd ["words"] (spRead K bookD) := by
  obtain ⟨np, gN, tN⟩ := G.names
  obtain ⟨pp, gP, tP⟩ := G.places
  obtain ⟨wp, gW, tW⟩ := G.words
  refine F.ok scBl (fun vs H Q E h => ?_) (fun cdv A outer s H vs Q E hr h => ?_)
  · obtain ⟨wl, ws, rfl, _⟩ := h
    rfl
  · obtain ⟨wl, ws, rfl, hne, hw, pl, k⟩ := h
    refine ⟨_, (pss_cons (ps_if (pt_cmpR op_eq (pe_ix ix_list (pv 0) pe_int (fun _ _ => rfl)) pe_str (nomark _)) (pss_cons (ps_set (i := 1) scBl.nd rfl (.inl rfl) (pe_call OT hr rfl R.g R.u.kp R.b .nil pass0 (pa_cons (pe_slice sl_list (pv 0) (po_some pe_int) po_none) (pa_cons (pe_glob rfl gN (v := .ref np) rfl) (pa_cons pe_dnewK pa_nil)))))
 (pss_one (ps_ret (pe_ifExp (pt_cmpR op_isN (pv 1) pe_non (nomark _)) pe_non (pe_tup (pa_cons pe_str (pa_cons (pv 1) pa_nil))))))) pss_nil)
 (pss_cons (ps_if (pt_cmpR op_eq (pe_ix ix_list (pv 0) pe_int (fun _ _ => rfl)) pe_str (nomark _))
        (pss_one (ps_ret (pe_ifExp (pt_cut (PW.pt (pw_and (pt_cmpR op_eq (pe_callB call_len_seq (by rfl) T.len PySem.boot_len (pa_cons (pv 0) pa_nil)) pe_int (nomark _)) (pw_and1 (pt_cmpR op_in_seq (pe_ix ix_list (pv 0) pe_int (fun _ _ => rfl)) (pe_glob rfl gP (v := .ref pp) rfl) (by rfl)))))) (pe_tup (pa_cons pe_str (pa_cons (pe_ix ix_list (pv 0) pe_int (fun _ _ => rfl)) pa_nil))) pe_non))) pss_nil)
 (pss_cons (ps_if (pt_cmpR op_in_seq (pe_ix ix_list (pv 0) pe_int (fun _ _ => rfl)) (pe_tup (pa_cons pe_str (pa_cons pe_str pa_nil))) (by rfl)) (pss_one (ps_ret (pe_call OM hr rfl M.g M.u.kp M.b .nil pass0 (pa_cons (pe_ix ix_list (pv 0) pe_int (fun _ _ => rfl)) (pa_cons (pe_slice sl_list (pv 0) (po_some pe_int) po_none) pa_nil))))) pss_nil)
 (pss_cons (ps_if (pt_cmpR op_eq (pe_callB call_len_seq (by rfl) T.len PySem.boot_len (pa_cons (pv 0) pa_nil)) pe_int (nomark _))
        (pss_one (ps_ret (pe_ifExp (pt_cmpR op_in_seq (pe_ix ix_list (pv 0) pe_int (fun _ _ => rfl)) (pe_glob rfl gW (v := .ref wp) rfl) (by rfl)) (pe_tup (pa_cons (pe_ix ix_list (pv 0) pe_int (fun _ _ => rfl)) pa_nil)) pe_non))) pss_nil)
 (pss_cons (ps_if (PW.pt (pw_and (pt_cmpR op_gt (pe_callB call_len_seq (by rfl) T.len PySem.boot_len (pa_cons (pv 0) pa_nil)) pe_int (nomark _)) (pw_and1 (pt_cmpR op_eq (pe_ix ix_list (pv 0) pe_int (fun _ _ => rfl)) pe_str (nomark _))))) (pss_one (ps_ret (pe_call OR hr rfl Se.g Se.u.kp Se.b .nil pass0 (pa_cons (pe_ix ix_list (pv 0) pe_int (fun _ _ => rfl)) (pa_cons (pe_slice sl_list (pv 0) (po_some pe_int) po_none) pa_nil))))) pss_nil)
 (pss_one (ps_ret pe_non))))))), ?_⟩
    obtain ⟨x, r, rfl⟩ : ∃ x r, ws = x :: r := by
      cases ws with
      | nil => exact absurd rfl hne
      | cons x r => exact ⟨x, r, rfl⟩
    have kk : ∀ v H', Same H H' → TD K H' v (bookD (x :: r)) → Q v H' := k
    clear k
    unfold bookD at kk
    dsimp only at kk
    have at0 : atI ((x :: r).map V.str) 0 = some (.str x) := at_0 x r
    have l2 : 2 ≤ sizeLine := by decide
    refine ⟨_, rfl, wl, _, _, .str x, rfl, rfl, hw, at0, rfl, _, rfl, ?_⟩
    rw [dec_str]
    by_cases h1 : x = "if"
    · rw [if_pos h1] at kk
      refine iteY h1 ⟨_, rfl, _, rfl, wl, _, rfl, hw, fun p hp => ?_⟩
      have s4 : Same H _ := same_new (o := .lst (cutV ((x :: r).map V.str) (some 1) none)) hp
      have p4 : upd H p (.lst (cutV ((x :: r).map V.str) (some 1) none)) p = some (.lst (r.map V.str)) := cut_1
      generalize upd H p (.lst (cutV ((x :: r).map V.str) (some 1) none)) = H4 at *
      intro ph hph
      have s5 : Same H4 _ := same_new (o := .dK (phrK [])) hph
      have p5 : upd H4 ph (.dK (phrK [])) ph = some (.dK (phrK [])) := upd_same
      refine ⟨p, np, ph, r, namesB, [], rfl, SqL.of (s5 _ _ p4), tN.sq, p5, pl.drop 1, well_b, fun v H6 s6 td => ?_⟩
      have s06 := (s4.trans s5).trans s6
      generalize testD r namesB [] = sd at *
      refine ⟨_, rfl, rfl, _, rfl, ?_⟩
      by_cases hv : v = .non
      · rw [if_pos (td.isN.mp hv)] at kk
        exact iteY hv (kk _ _ s06 .non)
      · rw [if_neg fun y => hv (td.isN.mpr y)] at kk
        refine iteN hv ⟨_, rfl, l2, fun t ht => ?_⟩
        exact kk _ _ (s06.trans (same_new ht)) (.tup (SqT.of upd_same) (.cons (.str _) (.cons (td.keep (KeepT.of (same_new ht))) .nil)))
    rw [if_neg h1] at kk
    refine iteN h1 ⟨_, rfl, wl, _, _, .str x, rfl, rfl, hw, at0, rfl, _, rfl, ?_⟩
    rw [dec_str]
    by_cases h2 : x = "write"
    · rw [if_pos h2] at kk
      refine iteY h2 ⟨fun c G => G = H ∧ (c = true ↔ ((x :: r).length = 2 ∧ r.getD 0 "" ∈ placesB)), ?_, ?_⟩
      · refine ⟨_, rfl, wl, _, rfl, .inl hw, rfl, _, rfl, ?_⟩
        rw [dec_i, List.length_map]
        by_cases h3 : (x :: r).length = 2
        · refine iteY (by omega) ⟨_, rfl, wl, _, _, .str (r.getD 0 ""), rfl, rfl, hw, at_n (ws := x :: r) (n := 1) (by omega), pp, _, rfl, .inr tP.sq, rfl, flat_strs placesB, _, rfl, ?_⟩
          rw [in_strs]
          by_cases h4 : r.getD 0 "" ∈ placesB
          · rw [decide_eq_true h4]
            exact ⟨rfl, ⟨fun _ => ⟨h3, h4⟩, fun _ => rfl⟩⟩
          · rw [decide_eq_false h4]
            exact ⟨rfl, ⟨fun y => (nomatch y), fun y => absurd y.2 h4⟩⟩
        · exact iteN (by omega) ⟨rfl, ⟨fun y => (nomatch y), fun y => absurd y.1 h3⟩⟩
      rintro c G1 ⟨rfl, hc⟩
      cases c with
      | true =>
        have hh := hc.mp rfl
        rw [if_pos hh] at kk
        refine iteT ⟨_, rfl, wl, _, _, .str (r.getD 0 ""), rfl, rfl, hw, at_n (ws := x :: r) (n := 1) (by omega), l2, fun t ht => ?_⟩
        exact kk _ _ (same_new ht) (.tup (SqT.of upd_same) (.cons (.str _) (.cons (.str _) .nil)))
      | false =>
        rw [if_neg (fun y => nomatch (hc.mpr y))] at kk
        exact iteF (kk _ _ (Same.refl _) .non)
    rw [if_neg h2] at kk
    refine iteN h2 ⟨_, rfl, wl, _, _, .str x, rfl, rfl, hw, at0, l2, fun q hq => ?_⟩
    have s5 : Same H _ := same_new (o := .tup (movesL.map V.str)) hq
    refine ⟨q, _, rfl, .inr (SqT.of (xs := movesL.map V.str) upd_same), rfl, flat_strs movesL, _, rfl, ?_⟩
    rw [in_strs]
    have em : x ∈ movesL ↔ (x = "back" ∨ x = "again") := by
      simp only [movesL, List.mem_cons, List.not_mem_nil, or_false]
    by_cases h3 : x = "back" ∨ x = "again"
    · rw [if_pos h3] at kk
      refine iteY (em.mpr h3) ⟨_, rfl, wl, _, _, .str x, rfl, rfl, s5.seq hw, at0, _, rfl, _, rfl, wl, _, rfl, s5.seq hw, fun p hp => ?_⟩
      have s6 : Same (upd H q (.tup (movesL.map V.str))) _ := same_new (o := .lst (cutV ((x :: r).map V.str) (some 1) none)) hp
      refine ⟨x, p, r, rfl, SqL.of cut_1, pl.drop 1, fun v H6 s7 td => ?_⟩
      exact kk _ _ ((s5.trans s6).trans s7) td
    rw [if_neg h3] at kk
    refine iteN (fun y => h3 (em.mp y)) ?_
    have hw5 := s5.seq hw
    have kk : ∀ v H', Same (upd H q (.tup (movesL.map V.str))) H' → TD K H' v _ → Q v H' := fun v H' s t => kk v H' (s5.trans s) t
    show tNext _ _ (upd H q (.tup (movesL.map V.str)))
    generalize upd H q (.tup (movesL.map V.str)) = H5 at *
    refine ⟨_, rfl, wl, _, rfl, .inl hw5, rfl, _, rfl, ?_⟩
    rw [dec_i, List.length_map]
    by_cases h4 : r = []
    · subst h4
      rw [if_pos rfl] at kk
      refine iteY rfl ⟨_, rfl, wl, _, _, .str x, rfl, rfl, hw5, at0, wp, _, rfl, .inr tW.sq, rfl, flat_strs wordsB, _, rfl, ?_⟩
      rw [in_strs]
      by_cases h5 : x ∈ wordsB
      · rw [if_pos h5] at kk
        refine iteY h5 ⟨_, rfl, wl, _, _, .str x, rfl, rfl, hw5, at0, (by show 1 ≤ sizeLine; decide), fun t ht => ?_⟩
        exact kk _ _ (same_new ht) (.tup (SqT.of upd_same) (.cons (.str _) .nil))
      · rw [if_neg h5] at kk
        exact iteN h5 (kk _ _ (Same.refl _) .non)
    rw [if_neg h4] at kk
    have lr : 0 < r.length := List.length_pos_iff.mpr h4
    refine iteN (show ¬ ((x :: r).length : Int) = 1 by rw [List.length_cons]; omega) ⟨_, rfl, wl, _, rfl, .inl hw5, _, _, rfl, rfl, _, rfl, ?_⟩
    rw [List.length_map]
    by_cases h5 : 2 < (x :: r).length
    · refine iteY (show (2 : Int) < ((x :: r).length : Int) by omega) ⟨_, rfl, wl, _, _, .str (r.getD 0 ""), rfl, rfl, hw5, at_n (ws := x :: r) (n := 1) (by omega), rfl, _, rfl, ?_⟩
      rw [dec_str]
      by_cases h6 : r.getD 0 "" = "="
      · rw [if_pos ⟨h5, h6⟩] at kk
        obtain ⟨y, r', rfl⟩ : ∃ y r', r = y :: r' := by
          cases r with
          | nil => exact absurd rfl h4
          | cons y r' => exact ⟨y, r', rfl⟩
        refine iteY h6 ⟨_, rfl, wl, _, _, .str x, rfl, rfl, hw5, at0, _, rfl, _, rfl, wl, _, rfl, hw5, fun p hp => ?_⟩
        have s6 : Same H5 _ := same_new (o := .lst (cutV ((x :: y :: r').map V.str) (some 2) none)) hp
        refine ⟨x, p, r', rfl, SqL.of cut_2, pl.drop 2, ?_, fun v H6 s7 td => ?_⟩
        · intro e
          rw [e] at h5
          exact absurd h5 (show ¬ (2 < 2) by decide)
        · exact kk _ _ (s6.trans s7) td
      · rw [if_neg (fun z => h6 z.2)] at kk
        exact iteN h6 (kk _ _ (Same.refl _) .non)
    · rw [if_neg (fun z => h5 z.1)] at kk
      exact iteN (show ¬ (2 : Int) < ((x :: r).length : Int) by omega) (iteF (kk _ _ (Same.refl _) .non))
end
end IdL
namespace IdL
open PySem L2 TL
/-! ### limits of a book code -/
def kwL : List (Str × List Str) := [("write", ["note"]), ("sealed", ["note", "undo", "redo"]), ("back", ["fail", "undo"]), ("again", ["redo"])]
def kwD : List (Str × PyData) := kwL.map fun p => (p.1, .tuple (p.2.map PyData.str))
theorem kw_look (z : Str) : kwD.lookup z = (kwL.lookup z).map fun ks => PyData.tuple (ks.map PyData.str) := by
  unfold kwD
  induction kwL with
  | nil => rfl
  | cons p l ih =>
    obtain ⟨a, b⟩ := p
    rw [List.map_cons, List.lookup_cons, List.lookup_cons]
    cases z == a
    · exact ih
    · rfl
theorem td_strs {K : PySem.W.Frag} {H : Hp} : ∀ {ks : List Str} {xs : List V}, TDs K H xs (ks.map PyData.str) → xs = ks.map V.str
  | [], _, h => by cases h; rfl
  | k :: ks, _, h => by
    cases h with
    | cons a t =>
      cases a
      rw [td_strs t]; rfl
def strD : PyData → Str
  | .str z => z
  | _ => ""
/-- for the kind -/
def forB (kd : Str) (d : PyData) : Bool := match kwL.lookup (headW d) with
  | some ks => decide (kd ∈ ks)
  | none => true
def sGoal : List Str := ["set", "wrap"]
def cntB : PyData → List Str
  | .tuple (.str w :: r) => if w ∈ sGoal then [strD (r.getD 0 .none)] else if w = "sealed" then [strD (r.getD 0 .none), "sealed"] else if w ∈ movesL then ["moved"] else if w = "write" then ["write"] else []
  | _ => []
structure BkOk (d : PyData) : Prop where
  ex : ∃ (w : Str) (r : List PyData), d = .tuple (.str w :: r) ∧ (w ∈ sGoal ∨ w = "sealed" → ∃ (t : Str) (r' : List PyData), r = .str t :: r')
def onesL : List Str := ["sealed", "moved", "write"]
def mostB (z : Str) : Int := if z ∈ onesL then 1 else 2
abbrev sFor : Stmt := top 84
abbrev sCn : Stmt := top 85
abbrev sMo : Stmt := top 86
theorem scFor : FnScope ["kind", "form"] ["kind", "form"] (defScope sFor) := ⟨rfl, rfl, rfl, by decide +kernel, rfl, by decide +kernel, by decide +kernel⟩
theorem scCn : FnScope ["form", "word"] ["form"] (defScope sCn) := ⟨rfl, rfl, rfl, by decide +kernel, rfl, by decide +kernel, by decide +kernel⟩
theorem scMo : FnScope ["name"] ["name"] (defScope sMo) := ⟨rfl, rfl, rfl, by decide +kernel, rfl, by decide +kernel, by decide +kernel⟩
structure GloKw (K : PySem.W.Frag) (w : World) (mg : Str → Option Value) : Prop where
  kw : ∃ p es n, mg "KINDS_OF_WORDS" = some (.ref p) ∧ KDict K w p es n ∧ ∀ z, ∃ r, PySem.W.nsIn K p z = some r ∧ match kwD.lookup z with
    | some d => ∃ t, r = some (.ref t) ∧ ∀ H, TD K H (.ref t) d
    | none => r = none
  most : ∃ t, mg "MOST_SETTINGS" = some (.int 2 t)
def spFor (K : PySem.W.Frag) : Sp := fun vs H Q _ => ∃ (kd : Str) (v : V) (d : PyData), vs = [.str kd, v] ∧ TD K H v d ∧ BkOk d ∧ Q (.bl (forB kd d)) H
def spCn (K : PySem.W.Frag) : Sp := fun vs H Q _ => ∃ (v : V) (d : PyData), vs = [v] ∧ TD K H v d ∧ BkOk d ∧ ∀ (p : Addr) H', Same H H' → H p = none → H' p = some (.lst ((cntB d).map V.str)) → Q (.ref p) H'
def spMo : Sp := fun vs H Q _ => ∃ z : Str, vs = [.str z] ∧ ∀ H', Same H H' → Q (.int (mostB z)) H'
section
variable {P : Program} {w : World} {K : PySem.W.Frag} {mg : Str → Option Value} {base : Heap}
theorem bk_open {H : Hp} {v : V} {d : PyData} (td : TD K H v d) (ok : BkOk d) : ∃ (a : Addr) (w0 : Str) (r : List PyData) (ys : List V), v = .ref a ∧ d = .tuple (.str w0 :: r) ∧ SqT K H a (.str w0 :: ys) ∧ (w0 ∈ sGoal ∨ w0 = "sealed" → ∃ (t : Str) (r' : List PyData) (zs : List V), r = .str t :: r' ∧ ys = .str t :: zs) := by
  obtain ⟨w0, r, rfl, hr1⟩ := ok.ex
  obtain ⟨a, xs, rfl, ha, ts⟩ := td.tupl
  cases ts with
  | cons t1 ts =>
    cases t1
    refine ⟨a, w0, r, _, rfl, rfl, ha, fun h => ?_⟩
    obtain ⟨t, r', e⟩ := hr1 h
    subst e
    cases ts with
    | cons t2 _ => cases t2; exact ⟨_, _, _, rfl, rfl⟩
theorem ok_for {f : Addr} {fd : FuncData} (F : Fun K "is_for" "is_for" sFor f fd) (G : GloKw K w mg) : FnOk P w K mg base CX0 1 f fd ["kind", "form"] (spFor K) := by
  obtain ⟨p, es, n, gK, kK, hK⟩ := G.kw
  refine F.ok scFor (fun vs H Q E h => ?_) (fun cdv A outer s H vs Q E hr h => ?_)
  · obtain ⟨kd, v, d, rfl, _⟩ := h
    rfl
  · obtain ⟨kd, v, d, rfl, td, ok, k⟩ := h
    refine ⟨_, pss_one (ps_ret (pe_or (pe_cmpR (op_notIn_kd kK) (pe_ix ix_tup (pv 1) pe_int (fun _ _ => rfl)) (pe_glob rfl gK (v := .ref p) rfl) (by rfl)) (pe_one (pe_cmpR op_in_seq (pv 0) (pe_ix ix_kdict (pe_glob rfl gK (v := .ref p) rfl) (pe_ix ix_tup (pv 1) pe_int (fun _ _ => rfl)) (fun _ _ => rfl)) (by rfl))))), ?_⟩
    obtain ⟨a, w0, r, ys, rfl, rfl, ha, _⟩ := bk_open td ok
    obtain ⟨rr, hns, hrr⟩ := hK w0
    have e0 : forB kd (.tuple (.str w0 :: r)) = match kwL.lookup w0 with | some ks => decide (kd ∈ ks) | none => true := rfl
    rw [e0] at k
    rw [kw_look] at hrr
    refine ⟨_, rfl, a, _, _, .str w0, rfl, rfl, ha, at_hd _ _, w0, rr, rfl, rfl, hns, _, rfl, ?_⟩
    cases hl : kwL.lookup w0 with
    | none =>
      rw [hl] at hrr k
      have hrr : rr = none := hrr
      subst hrr
      exact iteT k
    | some ks =>
      rw [hl] at hrr k
      obtain ⟨t, rfl, htd⟩ := (show ∃ t, rr = some (.ref t) ∧ ∀ H, TD K H (.ref t) (.tuple (ks.map PyData.str)) from hrr)
      obtain ⟨t', xs, et, ht, tds⟩ := (htd H).tupl
      cases et
      have exs := td_strs tds
      subst exs
      refine iteF ⟨_, rfl, _, rfl, a, _, _, .str w0, rfl, rfl, ha, at_hd _ _, p, w0, .ref t, rfl, rfl, ⟨_, _, _, kK.at_, kK.lit, hns, rfl⟩, t, _, rfl, .inr ht, rfl, flat_strs ks, ?_⟩
      rw [in_strs]
      exact k
theorem ok_mo {f : Addr} {fd : FuncData} (F : Fun K "most_of" "most_of" sMo f fd) (G : GloKw K w mg) : FnOk P w K mg base CX0 1 f fd ["name"] spMo := by
  obtain ⟨t2, g2⟩ := G.most
  refine F.ok scMo (fun vs H Q E h => ?_) (fun cdv A outer s H vs Q E hr h => ?_)
  · obtain ⟨z, rfl, _⟩ := h
    rfl
  · obtain ⟨z, rfl, k⟩ := h
    refine ⟨_, pss_one (ps_ret (pe_ifExp (pt_cmpR op_in_seq (pv 0) (pe_tup (pa_cons pe_str (pa_cons pe_str (pa_cons pe_str pa_nil)))) (by rfl)) pe_int (pe_glob rfl g2 (v := .int 2) ⟨_, rfl⟩))), ?_⟩
    unfold mostB at k
    refine ⟨_, rfl, (by show 3 ≤ sizeLine; decide), fun T hT => ?_⟩
    have s7 : Same H _ := same_new (o := .tup (onesL.map V.str)) hT
    refine ⟨T, _, rfl, .inr (SqT.of (xs := onesL.map V.str) upd_same), rfl, flat_strs onesL, _, rfl, ?_⟩
    rw [in_strs]
    by_cases h2 : z ∈ onesL
    · rw [if_pos h2] at k; exact iteY h2 (k _ s7)
    · rw [if_neg h2] at k; exact iteN h2 (k _ s7)
theorem ok_cn {f : Addr} {fd : FuncData} (F : Fun K "counted_names" "counted_names" sCn f fd) : FnOk P w K mg base CX0 1 f fd ["form"] (spCn K) := by
  refine F.ok scCn (fun vs H Q E h => ?_) (fun cdv A outer s H vs Q E hr h => ?_)
  · obtain ⟨v, d, rfl, _⟩ := h
    rfl
  · obtain ⟨v, d, rfl, td, ok, k⟩ := h
    refine ⟨_, (pss_cons (ps_set (i := 1) scCn.nd rfl (.inl rfl) (pe_ix ix_tup (pv 0) pe_int (fun _ _ => rfl)))
 (pss_cons (ps_if (pt_cmpR op_in_seq (pv 1) (pe_tup (pa_cons pe_str (pa_cons pe_str pa_nil))) (by rfl)) (pss_one (ps_ret (pe_lst (pa_cons (pe_ix ix_tup (pv 0) pe_int (fun _ _ => rfl)) pa_nil)))) pss_nil)
 (pss_cons (ps_if (pt_cmpR op_eq (pv 1) pe_str (nomark _)) (pss_one (ps_ret (pe_lst (pa_cons (pe_ix ix_tup (pv 0) pe_int (fun _ _ => rfl)) (pa_cons pe_str pa_nil))))) pss_nil)
 (pss_cons (ps_if (pt_cmpR op_in_seq (pv 1) (pe_tup (pa_cons pe_str (pa_cons pe_str pa_nil))) (by rfl)) (pss_one (ps_ret (pe_lst (pa_cons pe_str pa_nil)))) pss_nil)
 (pss_one (ps_ret (pe_ifExp (pt_cmpR op_eq (pv 1) pe_str (nomark _)) (pe_lst (pa_cons pe_str pa_nil)) (pe_lst pa_nil)))))))), ?_⟩
    obtain ⟨a, w0, r, ys, rfl, rfl, ha, hsec⟩ := bk_open td ok
    have ec : cntB (.tuple (.str w0 :: r)) = if w0 ∈ sGoal then [strD (r.getD 0 .none)] else if w0 = "sealed" then [strD (r.getD 0 .none), "sealed"] else if w0 ∈ movesL then ["moved"] else if w0 = "write" then ["write"] else [] := rfl
    rw [ec] at k
    clear ec
    have l1 : 1 ≤ sizeLine := by decide
    have l2 : 2 ≤ sizeLine := by decide
    refine ⟨_, rfl, a, _, _, .str w0, rfl, rfl, ha, at_hd _ _, ?_⟩
    refine ⟨_, rfl, l2, fun T hT => ?_⟩
    have s7 : Same H _ := same_new (o := .tup (sGoal.map V.str)) hT
    have t7 : upd H T (.tup (sGoal.map V.str)) T = some (.tup (sGoal.map V.str)) := upd_same
    show rIn _ _ _ _ (upd H T (.tup (sGoal.map V.str))) _
    generalize upd H T (.tup (sGoal.map V.str)) = G7 at *
    refine ⟨T, _, rfl, .inr (SqT.of t7), rfl, flat_strs sGoal, _, rfl, ?_⟩
    rw [in_strs]
    have ha7 := Same.tup s7 ha
    by_cases h1 : w0 ∈ sGoal
    · rw [if_pos h1] at k
      obtain ⟨t, r', zs, rfl, rfl⟩ := hsec (.inl h1)
      exact iteY h1 ⟨_, rfl, a, _, _, .str t, rfl, rfl, ha7, atI_nat (j := 1) rfl, l1, fun q hq => k q _ (s7.trans (same_new hq)) (s7.free hq) upd_same⟩
    rw [if_neg h1] at k
    refine iteN h1 ⟨_, rfl, rfl, _, rfl, ?_⟩
    rw [dec_str]
    by_cases h2 : w0 = "sealed"
    · rw [if_pos h2] at k
      obtain ⟨t, r', zs, rfl, rfl⟩ := hsec (.inr h2)
      exact iteY h2 ⟨_, rfl, a, _, _, .str t, rfl, rfl, ha7, atI_nat (j := 1) rfl, l2, fun q hq => k q _ (s7.trans (same_new hq)) (s7.free hq) upd_same⟩
    rw [if_neg h2] at k
    refine iteN h2 ⟨_, rfl, l2, fun T2 hT2 => ?_⟩
    have s8 : Same G7 _ := same_new (o := .tup (movesL.map V.str)) hT2
    have t8 : upd G7 T2 (.tup (movesL.map V.str)) T2 = some (.tup (movesL.map V.str)) := upd_same
    show rIn _ _ _ _ (upd G7 T2 (.tup (movesL.map V.str))) _
    generalize upd G7 T2 (.tup (movesL.map V.str)) = G8 at *
    have s08 := s7.trans s8
    refine ⟨T2, _, rfl, .inr (SqT.of t8), rfl, flat_strs movesL, _, rfl, ?_⟩
    rw [in_strs]
    by_cases h3 : w0 ∈ movesL
    · rw [if_pos h3] at k
      exact iteY h3 ⟨l1, fun q hq => k q _ (s08.trans (same_new hq)) (s08.free hq) upd_same⟩
    rw [if_neg h3] at k
    refine iteN h3 ⟨_, rfl, rfl, _, rfl, ?_⟩
    rw [dec_str]
    by_cases h4 : w0 = "write"
    · rw [if_pos h4] at k
      exact iteY h4 ⟨l1, fun q hq => k q _ (s08.trans (same_new hq)) (s08.free hq) upd_same⟩
    · rw [if_neg h4] at k
      exact iteN h4 ⟨Nat.zero_le _, fun q hq => k q _ (s08.trans (same_new hq)) (s08.free hq) upd_same⟩
end
end IdL
namespace IdL
open PySem L2 TL
/-! ### the first line of a way beyond a limit -/
def CntAt (kvs : List (Key × V)) (c : Str → Nat) : Prop := ∀ y : Str, valV kvs (.inr y) = if 0 < c y then some (.int (c y : Int)) else none
def addC (c : Str → Nat) (z : Str) : Str → Nat := fun y => if y = z then c y + 1 else c y
def namesGo : List Str → (Str → Nat) → Option (Str → Nat)
  | [], c => some c
  | z :: ns, c => if mostB z < ((c z : Nat) : Int) + 1 then none else namesGo ns (addC c z)
theorem names_cons (z : Str) (ns : List Str) (c : Str → Nat) : namesGo (z :: ns) c = if mostB z < ((c z : Nat) : Int) + 1 then none else namesGo ns (addC c z) := rfl
def wayGoB (ds : List PyData) : List Nat → (Str → Nat) → Option Nat
  | [], _ => none
  | l :: ls, c => match namesGo (cntB (ds.getD l .none)) c with
    | none => some l
    | some c' => wayGoB ds ls c'
theorem wayB_cons (ds : List PyData) (l : Nat) (ls : List Nat) (c : Str → Nat) : wayGoB ds (l :: ls) c = match namesGo (cntB (ds.getD l .none)) c with
    | none => some l
    | some c' => wayGoB ds ls c' := rfl
def lineV : Option Nat → V
  | none => .non
  | some n => .int ((n : Int) + 1)
theorem cnt_put {kvs : List (Key × V)} {c : Str → Nat} (h : CntAt kvs c) (z : Str) : CntAt (putK kvs (.inr z) (.int ((c z : Int) + 1))) (addC c z) := fun y => by
  rw [valV_put]
  unfold addC
  by_cases e : y = z
  · subst e
    rw [if_pos rfl, if_pos rfl, if_pos (by omega)]; rfl
  · rw [if_neg (fun q => e (Sum.inr.inj q)), if_neg e]
    exact h y
theorem cntB_len (d : PyData) : (cntB d).length ≤ 2 := by
  unfold cntB
  split
  · split
    · exact (by decide : 1 ≤ 2)
    · split
      · exact Nat.le_refl _
      · split
        · exact (by decide : 1 ≤ 2)
        · split
          · exact (by decide : 1 ≤ 2)
          · exact Nat.zero_le _
  · exact Nat.zero_le _
abbrev sWb : Stmt := top 87
theorem scWb : FnScope ["forms", "way", "counts", "line", "name"] ["forms", "way"] (defScope sWb) := ⟨rfl, rfl, rfl, by decide +kernel, rfl, by decide +kernel, by decide +kernel⟩
def BksOk (ds : List PyData) : Prop := ∀ d ∈ ds, BkOk d
def spWb (K : PySem.W.Frag) : Sp := fun vs H Q _ => ∃ (fa wa : Addr) (ds : List PyData) (k : Nat) (ls : List Nat), vs = [.ref fa, .ref wa] ∧ FormsAt K H fa ds ∧ BksOk ds ∧ WayAt H wa ds.length k ls ∧ ls.length ≤ 100000 ∧ ∀ H', Same H H' → Q (lineV (wayGoB ds ls fun _ => 0)) H'
structure FCn (K : PySem.W.Frag) (mg : Str → Option Value) (f : Addr) (d : FuncData) : Prop where
  u : Fun K "counted_names" "counted_names" sCn f d
  b : Binds K d ["form"] []
  g : mg "counted_names" = some (.ref f)
structure FMo (K : PySem.W.Frag) (mg : Str → Option Value) (f : Addr) (d : FuncData) : Prop where
  u : Fun K "most_of" "most_of" sMo f d
  b : Binds K d ["name"] []
  g : mg "most_of" = some (.ref f)
section
variable {P : Program} {w : World} {K : PySem.W.Frag} {mg : Str → Option Value} {base : Heap}
theorem ok_wb {f fC fM : Addr} {fd dC dM : FuncData} (F : Fun K "way_break" "way_break" sWb f fd) (C : FCn K mg fC dC) (M : FMo K mg fM dM) (G : GloKw K w mg) (T : Glo mg) : FnOk P w K mg base CX0 2 f fd ["forms", "way"] (spWb K) := by
  have OC : FnOk P w K mg base CX0 1 fC dC ["form"] (spCn K) := ok_cn C.u
  have OM : FnOk P w K mg base CX0 1 fM dM ["name"] spMo := ok_mo M.u G
  refine F.ok scWb (fun vs H Q E h => ?_) (fun cdv A outer s H vs Q E hr h => ?_)
  · obtain ⟨fa, wa, ds, k, ls, rfl, _⟩ := h
    rfl
  · obtain ⟨fa, wa, ds, kn, ls, rfl, hF, hP, hW, hlen, k⟩ := h
    have hu := hu_of hr
    obtain ⟨hls, hll, _⟩ := hW
    refine ⟨_, (pss_cons (ps_set (i := 2) scWb.nd rfl (.inl rfl) pe_dnewK)
 (pss_cons (ps_for PassesOwn.never rfl (pi_tup (pv 1)) (pg_name (i := 3) scWb.nd rfl (.inl rfl))
        (pss_one (ps_for PassesOwn.never rfl (pi_list (pe_call OC hr rfl C.g C.u.kp C.b .nil pass0 (pa_cons (pe_ix ix_list (pv 0) (pe_op op_sub (pv 3) pe_int) (fun _ _ => rfl)) pa_nil))) (pg_name (i := 4) scWb.nd rfl (.inl rfl)) (pss_cons (ps_dput hu (pv 2) (pv 4) (pe_op op_add (pe_dget2 hu (pv 2) (pv 4) pe_int ⟨rfl, rfl, rfl, rfl⟩) pe_int) rfl)
 (pss_one (ps_if (pt_cmpR op_gt (pe_dget hu (pv 2) (pv 4) (fun _ _ => rfl)) (pe_call OM hr rfl M.g M.u.kp M.b .nil pass0 (pa_cons (pv 4) pa_nil)) (nomark _)) (pss_one (ps_ret (pv 3))) pss_nil))))))
 (pss_one (ps_ret pe_non)))), ?_⟩
    intro cd hcd
    have s1 : Same H (upd H cd (.dK [])) := same_new hcd
    have c1 : upd H cd (.dK []) cd = some (.dK []) := upd_same
    show gName 2 _ _ (upd H cd (.dK [])) _
    generalize upd H cd (.dK []) = H1 at *
    have off : ∀ {G G' : Hp}, Same H G → (∀ a o, a ≠ cd → G a = some o → G' a = some o) → Same H G' := fun s q a o e => q a o (fun y => by rw [y, hcd] at e; cases e) (s a o e)
    refine ⟨_, rfl, wa, rfl, ⟨_, SqT.of (s1 _ _ hls)⟩, for_tup (K := K) (a := wa) (xs := wayV ls) (fun i σ G => ∃ (kvs : List (Key × V)) (c : Str → Nat) (v3 v4 : Option V), σ = [some (.ref fa), some (.ref wa), some (.ref cd), v3, v4] ∧ Same H G ∧ G cd = some (.dK kvs) ∧ CntAt kvs c ∧ kvs.length ≤ 2 * i ∧ wayGoB ds ls (fun _ => 0) = wayGoB ds (ls.drop i) c) ⟨[], fun _ => 0, none, none, rfl, s1, c1, fun _ => rfl, Nat.zero_le _, rfl⟩ (fun i σ G _ ⟨_, _, _, _, _, sG, _⟩ => SqT.of (sG _ _ hls)) ?_ ?_⟩
    rotate_left
    · rintro σ G ⟨kvs, c, v3, v4, rfl, sG, _, _, _, em⟩
      have e0 : ls.drop (wayV ls).length = [] := by unfold wayV; rw [List.length_map, List.drop_length]
      rw [e0] at em
      rw [em] at k
      exact k _ sG
    rintro i x σ G hi ⟨kvs, c, v3, v4, rfl, sG, hc, hcn, lk, em⟩
    obtain ⟨l, rfl, hli⟩ : ∃ l : Nat, x = .int ((l : Int) + 1) ∧ ls[i]? = some l := by
      unfold wayV at hi
      rw [List.getElem?_map] at hi
      cases e : ls[i]? with
      | none => rw [e] at hi; cases hi
      | some l => rw [e] at hi; cases hi; exact ⟨l, rfl, rfl⟩
    have hl := hll l (List.mem_of_getElem? hli)
    have hi2 := (List.getElem?_eq_some_iff.mp hli).1
    have hdr : ls.drop i = l :: ls.drop (i + 1) := by
      obtain ⟨h1, h2⟩ := List.getElem?_eq_some_iff.mp hli
      rw [← h2]; exact List.drop_eq_getElem_cons h1
    rw [hdr, wayB_cons] at em
    obtain ⟨xs, a, ys, hxs, lx, hv, ha, tda⟩ := (hF.same sG).head hl
    have hd : ds.getD l .none ∈ ds := by
      rw [List.getD_eq_getElem?_getD, List.getElem?_eq_getElem hl]; exact List.getElem_mem _
    have pg := hP _ hd
    generalize ds.getD l .none = d at *
    refine ⟨_, rfl, _, rfl, _, _, rfl, rfl, fa, _, _, .ref a, rfl, rfl, SqL.of hxs, at_nat hv, ?_⟩
    refine ⟨.ref a, d, rfl, tda, pg, fun np G3 s3 np0 hnp => ?_⟩
    have lcn := cntB_len d
    have nnp : np ≠ cd := fun y => by rw [y, hc] at np0; cases np0
    refine ⟨np, rfl, ⟨_, SqL.of hnp⟩, for_list (K := K) (a := np) (xs := (cntB d).map V.str) (fun j σ G4 => ∃ (kvs' : List (Key × V)) (c' : Str → Nat) (v4 : Option V), σ = [some (.ref fa), some (.ref wa), some (.ref cd), some (.int ((l : Int) + 1)), v4] ∧ (∀ b o, b ≠ cd → G3 b = some o → G4 b = some o) ∧ G4 cd = some (.dK kvs') ∧ CntAt kvs' c' ∧ kvs'.length ≤ 2 * i + j ∧ namesGo (cntB d) c = namesGo ((cntB d).drop j) c') ⟨kvs, c, v4, rfl, fun _ _ _ e => e, s3 _ _ hc, hcn, by omega, rfl⟩ (fun j σ G4 _ ⟨_, _, _, _, q, _⟩ => SqL.of (q _ _ nnp hnp)) ?_ ?_⟩
    · rintro j x σ G4 hj ⟨kvs', c', v4', rfl, q4, hc4, hcn4, lk4, en⟩
      rw [List.getElem?_map] at hj
      obtain ⟨z, hz, rfl⟩ := Option.map_eq_some_iff.mp hj
      have hj2 := (List.getElem?_eq_some_iff.mp hz).1
      have hdr2 : (cntB d).drop j = z :: (cntB d).drop (j + 1) := by
        obtain ⟨h1, h2⟩ := List.getElem?_eq_some_iff.mp hz
        rw [← h2]; exact List.drop_eq_getElem_cons h1
      rw [hdr2, names_cons] at en
      have hval : (valV kvs' (.inr z)).getD (.int 0) = .int (c' z) := by
        rw [hcn4 z]
        split
        · rfl
        · rename_i h
          rw [show c' z = 0 by omega]; rfl
      refine ⟨_, rfl, cd, rfl, .inl ⟨_, .inl hc4⟩, _, rfl, _, DGet.k (k := Sum.inr z) hc4, ?_⟩
      rw [hval]
      refine ⟨_, _, rfl, rfl, _, rfl, _, rfl, cd, _, rfl, DPut.k (k := (Sum.inr z : Key)) hc4 (by rw [sizeLine_eq]; omega), ?_⟩
      have hcn5 := cnt_put hcn4 z
      have h5 : upd G4 cd (.dK (putK kvs' (.inr z) (.int ((c' z : Int) + 1)))) cd = some (.dK (putK kvs' (.inr z) (.int ((c' z : Int) + 1)))) := upd_same
      have q5 : ∀ b o, b ≠ cd → G4 b = some o → upd G4 cd (.dK (putK kvs' (.inr z) (.int ((c' z : Int) + 1)))) b = some o := fun b o n e => by rw [upd_ne n]; exact e
      have lk5 : (putK kvs' (.inr z) (.int ((c' z : Int) + 1))).length ≤ 2 * i + (j + 1) := Nat.le_trans (put_len kvs' (.inr z) _) (by omega)
      generalize putK kvs' (.inr z) (.int ((c' z : Int) + 1)) = kvs5 at *
      have hg : DGet (upd G4 cd (.dK kvs5)) cd (.str z) (some (.int ((c' z : Int) + 1))) := by
        have q := DGet.k (k := Sum.inr z) h5
        rw [hcn5 z] at q
        unfold addC at q
        rw [if_pos rfl, if_pos (by omega)] at q
        exact q
      refine ⟨_, rfl, _, rfl, cd, _, rfl, hg, _, rfl, z, rfl, fun G6 s6 => ⟨_, _, rfl, rfl, _, rfl, ?_⟩⟩
      by_cases hb : mostB z < ((c' z : Nat) : Int) + 1
      · rw [if_pos hb] at en
        rw [en] at em
        rw [em] at k
        refine iteY (show ((c' z : Int) + 1) > mostB z from hb) ⟨_, rfl, ?_⟩
        exact k _ ((off (off (sG.trans s3) q4) q5).trans s6)
      · rw [if_neg hb] at en
        refine iteN (show ¬ ((c' z : Int) + 1) > mostB z from hb) ⟨kvs5, addC c' z, _, rfl, fun b o n e => s6 _ _ (q5 _ _ n (q4 _ _ n e)), s6 _ _ h5, hcn5, by omega, en⟩
    · rintro σ G4 ⟨kvs', c', v4', rfl, q4, hc4, hcn4, lk4, en⟩
      rw [List.length_map] at lk4
      rw [List.length_map, List.drop_length] at en
      rw [show namesGo [] c' = some c' from rfl] at en
      rw [en] at em
      exact ⟨kvs', c', _, _, rfl, off (sG.trans s3) q4, hc4, hcn4, by omega, em⟩
end
end IdL
namespace IdL
open PySem L2 TL
/-! ### the least line that is refused -/
theorem WaysL.get {H : Hp} {n : Nat} : ∀ {as : List Addr} {ss : List (List Nat)} (r : WaysL H n as ss) {i : Nat} {a : Addr}, as[i]? = some a → ∃ k ls, ss[i]? = some ls ∧ WayAt H a n k ls
  | _, _, .cons h t, 0, a, e => by cases e; exact ⟨_, _, rfl, h⟩
  | _, _, .cons h t, i + 1, a, e => t.get (i := i) e
theorem has_lt {jmp : List (Key × V)} {l j : Nat} (h : Has jmp ((l : Int) + 1)) (e : valV jmp (.inl ((l : Int) + 1)) = some (.int ((j : Int) + 1))) : l < j := by
  obtain ⟨j', e', lt⟩ := h
  rw [e] at e'
  have := V.int.inj (Option.some.inj e')
  omega
theorem StepTo.le {ds : List PyData} {jmp : List (Key × V)} (J : JOk ds jmp) {l m : Nat} (a : StepTo ds jmp l m) : l ≤ m := by
  induction a with
  | stop l h => exact Nat.le_refl _
  | end_ l m hl h r ih => omega
  | else_ l j m hl h hj r ih =>
    have := has_lt (J l hl (.inr h)) hj
    omega
theorem WayM.len {ds : List PyData} {jmp : List (Key × V)} (J : JOk ds jmp) {m : Nat} {ls : List Nat} (a : WayM ds jmp m ls) : ls = [] ∨ m + ls.length ≤ ds.length := by
  induction a with
  | over m h => exact .inl rfl
  | ends m hm h => exact .inr (by simp only [List.length_cons, List.length_nil]; omega)
  | ifA m q t hm h s r ih =>
    have := s.le J
    rcases ih with e | e
    · subst e; exact .inr (by simp only [List.length_cons, List.length_nil]; omega)
    · exact .inr (by rw [List.length_cons]; omega)
  | ifB m j q t hm h hj s r ih =>
    have := s.le J
    have := has_lt (J m hm (.inl h)) hj
    rcases ih with e | e
    · subst e; exact .inr (by simp only [List.length_cons, List.length_nil]; omega)
    · exact .inr (by rw [List.length_cons]; omega)
  | pl m q t hm h h2 s r ih =>
    have := s.le J
    rcases ih with e | e
    · subst e; exact .inr (by simp only [List.length_cons, List.length_nil]; omega)
    · exact .inr (by rw [List.length_cons]; omega)
theorem wayR_len {ds : List PyData} {jmp : List (Key × V)} (J : JOk ds jmp) {m : Nat} {ls : List Nat} (a : WayR ds jmp m ls) : ls.length ≤ ds.length := by
  obtain ⟨q, _, w⟩ := a
  rcases w.len J with e | e
  · rw [e]; exact Nat.zero_le _
  · omega
/-- forms that are not for the kind -/
def stGo (kd : Str) : List PyData → Nat → List Int
  | [], _ => []
  | r :: rs, i => if forB kd r = true then stGo kd rs (i + 1) else ((i : Int) + 1) :: stGo kd rs (i + 1)
theorem st_snoc (kd : Str) (r : PyData) : ∀ (rs : List PyData) (i : Nat), stGo kd (rs ++ [r]) i = stGo kd rs i ++ (if forB kd r = true then [] else [((i + rs.length : Nat) : Int) + 1])
  | [], i => by
    show (if forB kd r = true then [] else [((i : Int) + 1)]) = _
    split <;> simp only [stGo, List.nil_append, List.length_nil, Nat.add_zero]
  | x :: rs, i => by
    show (if forB kd x = true then stGo kd (rs ++ [r]) (i + 1) else ((i : Int) + 1) :: stGo kd (rs ++ [r]) (i + 1)) = (if forB kd x = true then stGo kd rs (i + 1) else ((i : Int) + 1) :: stGo kd rs (i + 1)) ++ _
    rw [st_snoc kd r rs (i + 1), List.length_cons, show i + 1 + rs.length = i + (rs.length + 1) by omega]
    split <;> rfl
theorem st_len (kd : Str) : ∀ (rs : List PyData) (i : Nat), (stGo kd rs i).length ≤ rs.length
  | [], i => Nat.le_refl _
  | x :: rs, i => by
    show (if forB kd x = true then stGo kd rs (i + 1) else ((i : Int) + 1) :: stGo kd rs (i + 1)).length ≤ _
    have := st_len kd rs (i + 1)
    split
    · rw [List.length_cons]; omega
    · rw [List.length_cons, List.length_cons]; omega
theorem mem_st {kd : Str} : ∀ {rs : List PyData} {i : Nat} {z : Int}, z ∈ stGo kd rs i ↔ ∃ n row, rs[n]? = some row ∧ forB kd row = false ∧ z = ((i + n : Nat) : Int) + 1
  | [], i, z => by
    constructor
    · intro h; cases h
    · rintro ⟨n, row, h, _⟩; cases h
  | x :: rs, i, z => by
    have e : stGo kd (x :: rs) i = if forB kd x = true then stGo kd rs (i + 1) else ((i : Int) + 1) :: stGo kd rs (i + 1) := rfl
    rw [e]
    constructor
    · intro h
      split at h
      · obtain ⟨n, row, h1, h2, h3⟩ := mem_st.mp h
        exact ⟨n + 1, row, h1, h2, by rw [h3, show i + 1 + n = i + (n + 1) by omega]⟩
      · rename_i hx
        rcases List.mem_cons.mp h with h | h
        · exact ⟨0, x, rfl, Bool.eq_false_iff.mpr hx, h⟩
        · obtain ⟨n, row, h1, h2, h3⟩ := mem_st.mp h
          exact ⟨n + 1, row, h1, h2, by rw [h3, show i + 1 + n = i + (n + 1) by omega]⟩
    · rintro ⟨n, row, h1, h2, h3⟩
      cases n with
      | zero =>
        cases h1
        rw [if_neg (by rw [h2]; exact Bool.false_ne_true), h3]
        exact List.mem_cons_self ..
      | succ n =>
        have : z ∈ stGo kd rs (i + 1) := mem_st.mpr ⟨n, row, h1, h2, by rw [h3, show i + 1 + n = i + (n + 1) by omega]⟩
        split
        · exact this
        · exact List.mem_cons_of_mem _ this
/-- a line at which something is refused -/
def RefdP (kd : Str) (ds : List PyData) (jmp : List (Key × V)) (n : Nat) : Prop := (∃ row, ds[n]? = some row ∧ forB kd row = false) ∨ ∃ ls, WayR ds jmp 0 ls ∧ wayGoB ds ls (fun _ => 0) = some n
/-- the least of them -/
def LeastP (kd : Str) (ds : List PyData) (jmp : List (Key × V)) : Option Nat → Prop
  | none => ∀ n, ¬ RefdP kd ds jmp n
  | some n => RefdP kd ds jmp n ∧ ∀ m, RefdP kd ds jmp m → n ≤ m
def numsO (L : List (Option Nat)) : List Int := L.filterMap fun o => o.map fun n : Nat => (n : Int) + 1
theorem numsO_snoc (L : List (Option Nat)) (o : Option Nat) : numsO (L ++ [o]) = numsO L ++ (match o with | none => [] | some n => [(n : Int) + 1]) := by
  unfold numsO
  rw [List.filterMap_append]
  cases o <;> rfl
theorem mem_numsO {L : List (Option Nat)} {z : Int} : z ∈ numsO L ↔ ∃ n : Nat, some n ∈ L ∧ z = (n : Int) + 1 := by
  unfold numsO
  rw [List.mem_filterMap]
  constructor
  · rintro ⟨o, h1, h2⟩
    cases o with
    | none => cases h2
    | some n => cases h2; exact ⟨n, h1, rfl⟩
  · rintro ⟨n, h1, rfl⟩
    exact ⟨some n, h1, rfl⟩
theorem numsO_len (L : List (Option Nat)) : (numsO L).length ≤ L.length := List.length_filterMap_le ..
def wayL (ds : List PyData) (FL : List (List Nat)) : List (Option Nat) := FL.map fun ls => wayGoB ds ls fun _ => 0
theorem mem_all {kd : Str} {ds : List PyData} {jmp : List (Key × V)} {FL : List (List Nat)} (h : ∀ ls, ls ∈ FL ↔ WayR ds jmp 0 ls) (z : Int) : z ∈ stGo kd ds 0 ++ numsO (wayL ds FL) ↔ ∃ n : Nat, RefdP kd ds jmp n ∧ z = (n : Int) + 1 := by
  rw [List.mem_append]
  constructor
  · rintro (y | y)
    · obtain ⟨n, row, h1, h2, h3⟩ := mem_st.mp y
      rw [Nat.zero_add] at h3
      exact ⟨n, .inl ⟨row, h1, h2⟩, h3⟩
    · obtain ⟨n, h1, h2⟩ := mem_numsO.mp y
      obtain ⟨ls, h3, h4⟩ := List.mem_map.mp h1
      exact ⟨n, .inr ⟨ls, (h ls).mp h3, h4⟩, h2⟩
  · rintro ⟨n, ⟨row, h1, h2⟩ | ⟨ls, h1, h2⟩, rfl⟩
    · exact .inl (mem_st.mpr ⟨n, row, h1, h2, by rw [Nat.zero_add]⟩)
    · exact .inr (mem_numsO.mpr ⟨n, List.mem_map.mpr ⟨ls, (h ls).mpr h1, h2⟩, rfl⟩)
abbrev sLeast : Stmt := top 88
theorem scLeast : FnScope ["kind", "forms", "jumps", "found", "at", "form", "way", "line"] ["kind", "forms", "jumps"] (defScope sLeast) := ⟨rfl, rfl, rfl, by decide +kernel, rfl, by decide +kernel, by decide +kernel⟩
def spLeast (K : PySem.W.Frag) : Sp := fun vs H Q _ => ∃ (kd : Str) (fa ja : Addr) (ds : List PyData) (jmp : List (Key × V)), vs = [.str kd, .ref fa, .ref ja] ∧ FormsAt K H fa ds ∧ BksOk ds ∧ H ja = some (.dK jmp) ∧ JOk ds jmp ∧ ds.length ≤ 100000 ∧ ifsFrom ds 0 ≤ 20 ∧ ∀ r H', LeastP kd ds jmp r → Same H H' → Q (lineV r) H'
structure FFor (K : PySem.W.Frag) (mg : Str → Option Value) (f : Addr) (d : FuncData) : Prop where
  u : Fun K "is_for" "is_for" sFor f d
  b : Binds K d ["kind", "form"] []
  g : mg "is_for" = some (.ref f)
structure FWb (K : PySem.W.Frag) (mg : Str → Option Value) (f : Addr) (d : FuncData) : Prop where
  u : Fun K "way_break" "way_break" sWb f d
  b : Binds K d ["forms", "way"] []
  g : mg "way_break" = some (.ref f)
structure FWays (K : PySem.W.Frag) (mg : Str → Option Value) (f : Addr) (d : FuncData) : Prop where
  u : Fun K "find_ways" "find_ways" sWays f d
  b : Binds K d ["forms", "jumps"] []
  g : mg "find_ways" = some (.ref f)
section
variable {P : Program} {w : World} {K : PySem.W.Frag} {mg : Str → Option Value} {base : Heap}
theorem ok_least {f fL fW fY : Addr} {fd dL dW dY : FuncData} (F : Fun K "least_refused" "least_refused" sLeast f fd) (L : FFor K mg fL dL) (W : FWb K mg fW dW) (Y : FWays K mg fY dY) (OL : FnOk P w K mg base CX0 1 fL dL ["kind", "form"] (spFor K)) (OW : FnOk P w K mg base CX0 2 fW dW ["forms", "way"] (spWb K)) (OY : FnOk P w K mg base CX0 2 fY dY ["forms", "jumps"] (spWays K)) (T : Glo mg) (mn : mg "min" = none) : FnOk P w K mg base CX0 3 f fd ["kind", "forms", "jumps"] (spLeast K) := by
  refine F.ok scLeast (fun vs H Q E h => ?_) (fun cdv A outer s H vs Q E hr h => ?_)
  · obtain ⟨kd, fa, ja, ds, jmp, rfl, _⟩ := h
    rfl
  · obtain ⟨kd, fa, ja, ds, jmp, rfl, hF, hok, hJ, J, few, hif, k⟩ := h
    have hr1 := hr.mono (show 1 ≤ 2 by decide)
    refine ⟨_, (pss_cons (ps_setLc (i := 3) (own := [("at", 4), ("form", 5)]) (g := gTup K 2 (gCons (gName 4) (gCons (gName 5) gNil))) (by rfl) scLeast.nd rfl rfl (sw_true rfl rfl rfl (by decide +kernel)) (pi_enum (by rfl) T.enum (pa_cons (pv 1) pa_nil)) (blkOk_by (N := ["kind", "forms", "jumps", "found", "at", "form", "way", "line"]) (sc := defScope sLeast) (by decide +kernel))
          (fun _ _ _ _ _ => pg_tup rfl (pgs_cons (pg_name (i := 4) scLeast.nd rfl (.inl rfl)) (pgs_cons (pg_name (i := 5) scLeast.nd rfl (.inl rfl)) pgs_nil)))
          (fun _ _ _ _ _ => pts_one (pt_not (pt_val (pe_call OL hr1 rfl L.g L.u.kp L.b .nil pass0 (pa_cons (pv 0) (pa_cons (pv 5) pa_nil)))))) (fun _ _ _ _ _ => pe_op op_add (pv 4) pe_int))
 (pss_cons (ps_for PassesOwn.never rfl (pi_list (pe_call OY hr rfl Y.g Y.u.kp Y.b .nil pass0 (pa_cons (pv 1) (pa_cons (pv 2) pa_nil)))) (pg_name (i := 6) scLeast.nd rfl (.inl rfl)) (pss_cons (ps_set (i := 7) scLeast.nd rfl (.inl rfl) (pe_call OW hr rfl W.g W.u.kp W.b .nil pass0 (pa_cons (pv 1) (pa_cons (pv 6) pa_nil))))
 (pss_one (ps_if (pt_cmpR op_notN (pv 7) pe_non (nomark _)) (pss_one (ps_expr (pe_bm PySem.F.plainAttrs_list PySem.F.slot_list_append PySem.F.type_list_append mt_append (pv 3) (pa_cons (pv 7) pa_nil)))) pss_nil))))
 (pss_one (ps_ret (pe_ifExp (pt_truth (pv 3) (by intro _; rfl)) (pe_callB (cr_min rfl) (by rfl) mn (by decide +kernel) (pa_cons (pv 3) pa_nil)) pe_non))))), ?_⟩
    obtain ⟨xs, hxs, tds⟩ := hF.ex
    have lxs := tds.len
    refine ⟨_, rfl, fa, xs, rfl, SqL.of hxs, fun D hD => lc_it walk_enum (fun i G => Same H G ∧ G D = some (.lst ((stGo kd (ds.take i) 0).map V.int))) ⟨same_new hD, upd_same⟩ (fun i G _ ⟨sG, _⟩ => SqL.of (sG _ _ hxs)) ?_ ?_⟩
    · rintro i x G G2 hi ⟨sG, hG⟩ ⟨T0, xi, yi, rfl, hT, rfl, e1, e2⟩
      have s4 : Same G _ := same_new (o := .tup [xi, yi]) hT
      have hT4 : upd G T0 (.tup [xi, yi]) T0 = some (.tup [xi, yi]) := upd_same
      generalize upd G T0 (.tup [xi, yi]) = G4 at *
      refine ⟨T0, _, rfl, SqT.of hT4, rfl, _, _, rfl, _, _, rfl, rfl, ?_⟩
      cases e1
      rw [lxs] at hi
      obtain ⟨v, hv, tv⟩ := tds.at i hi
      have e2 : xs[i]? = some yi := e2
      rw [hv] at e2
      cases e2
      have hz : ds[i]? = some (ds.getD i .none) := by rw [List.getD_eq_getElem?_getD, List.getElem?_eq_getElem hi]; rfl
      have bk := hok _ (List.mem_of_getElem? hz)
      generalize ds.getD i .none = row at *
      have lst := st_len kd (ds.take i) 0
      have lt : (ds.take i).length = i := by rw [List.length_take]; omega
      have e3 : stGo kd (ds.take (i + 1)) 0 = stGo kd (ds.take i) 0 ++ (if forB kd row = true then [] else [((i : Nat) : Int) + 1]) := by
        rw [List.take_add_one, hz, show (some row).toList = [row] from rfl, st_snoc, lt, Nat.zero_add]
      have sG4 := sG.trans s4
      refine ⟨rfl, _, rfl, _, rfl, kd, yi, row, rfl, tv.keep (KeepT.of sG4), bk, _, rfl, ?_⟩
      have hD5 := s4 _ _ hG
      rw [e3]
      cases hb : forB kd row with
      | true =>
        rw [if_pos rfl]
        refine iteF ⟨sG4, ?_⟩
        rw [List.append_nil]; exact hD5
      | false =>
        rw [if_neg Bool.false_ne_true]
        refine iteT ⟨_, rfl, _, _, rfl, rfl, _, hD5, (by rw [List.length_map, sizeLine_eq]; omega), fun c o e => ?_, ?_⟩
        · rw [upd_ne (fun y => by rw [y, hD] at e; cases e)]; exact sG4 _ _ e
        · rw [upd_same, List.map_append]; rfl
    rintro G ⟨sG, hG⟩
    rw [lxs, List.take_length] at hG
    have FG := hF.same sG
    have lst := st_len kd ds 0
    refine ⟨_, rfl, _, rfl, fa, ja, ds, jmp, rfl, FG, sG _ _ hJ, J, few, hif, fun fo ws H3 s3 hfo FL hws hcmp hl => ?_⟩
    have s03 := sG.trans s3
    have lFL := hws.len
    have hD3 := s3 _ _ hG
    have hmem := mem_all (kd := kd)  hcmp
    have nDf : D = fo → ws = [] ∧ stGo kd ds 0 = [] := fun y => by
      have h0 := hD3
      rw [y, hfo] at h0
      have h0 := HO.lst.inj (Option.some.inj h0)
      cases ws with
      | nil => exact ⟨rfl, List.map_eq_nil_iff.mp h0.symm⟩
      | cons a as =>
        cases hs : stGo kd ds 0 with
        | nil => rw [hs] at h0; cases h0
        | cons z zs => rw [hs] at h0; injection h0 with h1 h2; cases h1
    refine ⟨fo, rfl, ⟨_, SqL.of hfo⟩, for_list (K := K) (a := fo) (xs := ws.map V.ref) (fun i σ G4 => ∃ (v5 v6 v7 v8 : Option V), σ = [some (.str kd), some (.ref fa), some (.ref ja), some (.ref D), v5, v6, v7, v8] ∧ (∀ a o, a ≠ D → H3 a = some o → G4 a = some o) ∧ G4 D = some (.lst ((stGo kd ds 0 ++ numsO (wayL ds (FL.take i))).map V.int))) ⟨_, _, _, _, rfl, fun _ _ _ e => e, by rw [show FL.take 0 = [] from rfl, show wayL ds [] = [] from rfl, show numsO [] = [] from rfl, List.append_nil]; exact hD3⟩ (fun i σ G4 _ ⟨_, _, _, _, _, q, h4⟩ => SqL.of (by
      by_cases y : D = fo
      · obtain ⟨e1, e2⟩ := nDf y
        have e3 : FL = [] := List.length_eq_zero_iff.mp (by rw [← lFL, e1]; rfl)
        rw [e1, ← y, h4, e2, e3, List.take_nil]; rfl
      · exact q _ _ (Ne.symm y) hfo)) ?_ ?_⟩
    · rintro i x σ G4 hi ⟨v5, v6, v7, v8, rfl, q4, h4⟩
      have hi' : i < ws.length := by
        have := (List.getElem?_eq_some_iff.mp hi).1
        rwa [List.length_map] at this
      obtain ⟨wy, hwy⟩ : ∃ y, ws[i]? = some y := ⟨ws[i], List.getElem?_eq_getElem hi'⟩
      rw [List.getElem?_map, hwy] at hi
      cases hi
      obtain ⟨kk, ls, hls, hW⟩ := hws.get hwy
      have off : Same H G4 := fun a o e => q4 a o (fun y => by rw [y, hD] at e; cases e) (s03 a o e)
      have hW2 : WayAt G4 wy ds.length kk ls := ⟨q4 _ _ (fun y => by
        have := hW.at_
        rw [y] at this
        rw [hD3] at this; cases this) hW.at_, hW.low, hW.len⟩
      have hlen : ls.length ≤ 100000 := Nat.le_trans (wayR_len J ((hcmp ls).mp (List.mem_of_getElem? hls))) few
      refine ⟨_, rfl, _, rfl, fa, wy, ds, kk, ls, rfl, hF.same off, hok, hW2, hlen, fun G5 s5 => ?_⟩
      have e3 : numsO (wayL ds (FL.take (i + 1))) = numsO (wayL ds (FL.take i)) ++ (match wayGoB ds ls (fun _ => 0) with | none => [] | some n => [(n : Int) + 1]) := by
        rw [List.take_add_one, hls, show (some ls).toList = [ls] from rfl]
        unfold wayL
        rw [List.map_append]
        exact numsO_snoc _ _
      have ln := numsO_len (wayL ds (FL.take i))
      have lw : (wayL ds (FL.take i)).length ≤ i := by unfold wayL; rw [List.length_map, List.length_take]; exact Nat.min_le_left _ _
      have lst := st_len kd ds 0
      refine ⟨_, rfl, rfl, _, rfl, ?_⟩
      rw [e3]
      cases ho : wayGoB ds ls (fun _ => 0) with
      | none =>
        refine iteNS rfl ⟨_, _, _, _, rfl, fun a o n e => s5 _ _ (q4 a o n e), ?_⟩
        simp only [List.append_nil]
        exact s5 _ _ h4
      | some n =>
        refine iteNN (fun y => nomatch y) ⟨_, rfl, .inl ⟨rfl, _, SqL.of (s5 _ _ h4)⟩, _, rfl, D, _, _, rfl, rfl, s5 _ _ h4, (by rw [List.length_map, List.length_append, sizeLine_eq]; omega), ?_⟩
        refine ⟨_, _, _, _, rfl, fun a o nn e => ?_, ?_⟩
        · rw [upd_ne nn]; exact s5 _ _ (q4 a o nn e)
        · rw [upd_same, ← List.append_assoc, List.map_append (l₁ := stGo kd ds 0 ++ _)]; rfl
    · rintro σ G4 ⟨v5, v6, v7, v8, rfl, q4, h4⟩
      rw [List.length_map, lFL, List.take_length] at h4
      have off : Same H G4 := fun a o e => q4 a o (fun y => by rw [y, hD] at e; cases e) (s03 a o e)
      refine ⟨_, rfl, !((stGo kd ds 0 ++ numsO (wayL ds FL)).map V.int).isEmpty, .inl ⟨_, SqL.of h4, rfl⟩, ?_⟩
      generalize stGo kd ds 0 ++ numsO (wayL ds FL) = tot at *
      cases en : tot with
      | nil =>
        refine iteF (k none _ (fun n hr => ?_) off)
        have := (hmem _).mpr ⟨n, hr, rfl⟩
        rw [en] at this
        exact absurd this List.not_mem_nil
      | cons z zs =>
        refine iteT ⟨_, rfl, D, z :: zs, rfl, SqL.of (by rw [← en]; exact h4), by simp, fun m h1 h2 => ?_⟩
        rw [← en] at h1 h2
        obtain ⟨n, hn, rfl⟩ := (hmem _).mp h1
        refine k (some n) _ ⟨hn, fun m2 hm2 => ?_⟩ off
        have := h2 _ ((hmem _).mpr ⟨m2, hm2, rfl⟩)
        omega
end
end IdL
namespace IdL
open PySem L2 TL
/-! ### what a line of a book code is read to -/
theorem codeM_ok {rd : List Str → PyData} {ml mi : Int} {x : Str} {rs : List Str} {ds : List PyData} {jmp : List (Key × V)} (h : codeM rd ml mi x = .ok rs ds jmp) :
    rs = linesOf x ∧ formsGo rd (linesOf x) 0 [] [] [] = .ok (ds, jmp) ∧ ((linesOf x).length : Int) ≤ ml ∧ ((ds.filter isIfD).length : Int) ≤ mi := by
  unfold codeM at h
  split at h
  · cases h
  · rename_i h1
    split at h
    · cases h
    · rename_i q hq
      split at h
      · cases h
      · rename_i h2
        cases h
        exact ⟨rfl, hq, by omega, by omega⟩
theorem forms_all {rd : List Str → PyData} {p : PyData → Prop} (hp : ∀ row, isNoneD (rowD rd row) = false → p (rowD rd row)) : ∀ (rs : List Str) (i : Nat) (fs : List PyData) (stk : List (Int × Int)) (jmp : List (Key × V)) {q : List PyData × List (Key × V)}, formsGo rd rs i fs stk jmp = .ok q → (∀ d ∈ fs, p d) → ∀ d ∈ q.1, p d
  | [], i, fs, stk, jmp, q, h, hf => by
    have h : (if stk.isEmpty = true then Except.ok (fs, jmp) else Except.error (i + 1)) = Except.ok q := h
    split at h
    · cases h; exact hf
    · cases h
  | row :: rs, i, fs, stk, jmp, q, h, hf => by
    rw [formsGo_cons] at h
    split at h
    · cases h
    · rename_i hn
      have hn := Bool.eq_false_iff.mpr hn
      have hf2 : ∀ d ∈ fs ++ [rowD rd row], p d := fun d hd => by
        rcases List.mem_append.mp hd with h | h
        · exact hf d h
        · rw [List.mem_singleton.mp h]; exact hp row hn
      split at h
      · exact forms_all hp rs _ _ _ _ h hf2
      · split at h
        · split at h
          · cases h
          · exact forms_all hp rs _ _ _ _ h hf2
        · exact forms_all hp rs _ _ _ _ h hf2
structure FOk (d : PyData) : Prop where
  bk : BkOk d
  rd : ReadOk d
theorem form_ok (w : Str) (r : List PyData) (h1 : ¬ (w ∈ sGoal ∨ w = "sealed")) (h3 : w = sElse ∨ w = sEnd → r = []) : FOk (.tuple (.str w :: r)) :=
  ⟨⟨⟨w, r, rfl, fun h => absurd h h1⟩⟩, .inr ⟨w, r, rfl, h3⟩⟩
theorem form_tg (w t : Str) (r : List PyData) (h3 : ¬ (w = sElse ∨ w = sEnd)) : FOk (.tuple (.str w :: .str t :: r)) :=
  ⟨⟨⟨w, _, rfl, fun _ => ⟨t, r, rfl⟩⟩⟩, .inr ⟨w, _, rfl, fun h => absurd h h3⟩⟩
theorem word_two (ws : List Str) : wordB ws = "wrap" ∨ wordB ws = "set" := by
  unfold wordB
  split
  · exact .inl rfl
  · exact .inr rfl
theorem sett_ok (tg : Str) (ws : List Str) : settB tg ws = .none ∨ FOk (settB tg ws) := by
  unfold settB
  split
  · exact .inl rfl
  · split
    · unfold sealD
      split
      · exact .inl rfl
      · exact .inr (form_tg _ _ _ (by decide +kernel))
    · split
      · exact .inl rfl
      · rcases word_two ws with e | e <;> rw [e] <;> exact .inr (form_tg _ _ _ (by decide +kernel))
theorem move_ok (wd : Str) (h : wd = "back" ∨ wd = "again") (ws : List Str) : moveD wd ws = .none ∨ FOk (moveD wd ws) := by
  unfold moveD
  have h1 : ¬ (wd = sElse ∨ wd = sEnd) := by rcases h with e | e <;> rw [e] <;> decide +kernel
  split
  · split
    · exact .inr (form_tg _ _ _ h1)
    · exact .inl rfl
  · split
    · split
      · exact .inl rfl
      · exact .inr (form_tg _ _ _ h1)
    · exact .inl rfl
theorem words_ok : ∀ x ∈ wordsB, FOk (.tuple [.str x]) := fun x hx => by
  refine form_ok x [] ?_ (fun _ => rfl)
  revert x
  decide +kernel
theorem book_ok : ∀ ws : List Str, bookD ws = .none ∨ FOk (bookD ws)
  | [] => .inl rfl
  | x :: r => by
    unfold bookD
    dsimp only
    split
    · split
      · exact .inl rfl
      · exact .inr (form_ok _ _ (by decide +kernel) (fun h => absurd h (by decide +kernel)))
    · split
      · split
        · exact .inr (form_ok _ _ (by decide +kernel) (fun h => absurd h (by decide +kernel)))
        · exact .inl rfl
      · split
        · rename_i h
          exact move_ok x h r
        · split
          · split
            · rename_i h
              exact .inr (words_ok x h)
            · exact .inl rfl
          · split
            · exact sett_ok x _
            · exact .inl rfl
theorem book_read (ws : List Str) : ReadOk (bookD ws) := by
  rcases book_ok ws with e | h
  · exact .inl e
  · exact h.rd
theorem row_book (row : Str) (hn : isNoneD (rowD bookD row) = false) : FOk (rowD bookD row) := by
  unfold rowD at hn ⊢
  split
  · rename_i h; rw [if_pos h] at hn; cases hn
  · rename_i h
    rw [if_neg h] at hn
    rcases book_ok (Txt.split row " ") with e | h
    · rw [e] at hn; cases hn
    · exact h
end IdL
namespace IdL
open PySem L2 TL
/-! ### a book code is made -/
def fldC : List Str := ["kind", "rules", "text", "rows", "forms", "jumps", "answers"]
def kindsB : List Str := ["note", "fail", "undo", "redo"]
abbrev sInit : Stmt := inClass (top 93) 0
abbrev sLenC : Stmt := inClass (top 93) 1
abbrev sItem : Stmt := inClass (top 93) 2
abbrev sEqC : Stmt := inClass (top 93) 4
abbrev stKind : Stmt := inClass (top 20) 0
abbrev stRef : Stmt := inClass (top 22) 0
def NI : List Str := ["self", "kind", "rules", "text", "rows", "forms", "jumps", "line"]
theorem scInit : FnScope NI ["self", "kind", "rules", "text"] (defScope sInit) := ⟨rfl, rfl, rfl, by decide +kernel, rfl, by decide +kernel, by decide +kernel⟩
structure GloC (P : Program) (w : World) (K : PySem.W.Frag) (mg : Str → Option Value) (base : Heap) : Prop where
  kinds : ∃ p, mg "KINDS" = some (.ref p) ∧ KTup K p (kindsB.map V.str)
  lines : ∃ t, mg "MOST_LINES" = some (.int 30 t)
  ifs : ∃ t, mg "MOST_IFS" = some (.int 6 t)
  rdr : ∃ f, mg "read_book_line" = some (.ref f) ∧ Rdr P w K mg base 5 f bookD
structure OCd (K : PySem.W.Frag) (C : Addr) : Prop where
  cl : Cls K C
  no : ∀ f ∈ fldC, NoAttr K C f
structure FCode (K : PySem.W.Frag) (mg : Str → Option Value) (f : Addr) (d : FuncData) : Prop where
  u : Fun K "read_code" "read_code" sCode f d
  b : Binds K d ["text", "read_line", "most_lines", "most_ifs"] []
  g : mg "read_code" = some (.ref f)
structure FLeast (K : PySem.W.Frag) (mg : Str → Option Value) (f : Addr) (d : FuncData) : Prop where
  u : Fun K "least_refused" "least_refused" sLeast f d
  b : Binds K d ["kind", "forms", "jumps"] []
  g : mg "least_refused" = some (.ref f)
/-- what a kind may be -/
inductive KnV : V → Prop
  | str (z : Str) : KnV (.str z)
  | int (i : Int) : KnV (.int i)
  | non : KnV .non
def kindIn : V → Bool
  | .str z => decide (z ∈ kindsB)
  | _ => false
def kindS : V → Str
  | .str z => z
  | _ => ""
/-- a code at x: its fields -/
def cdF (kv rv : V) (z : Str) (t1 t2 ja aa : Addr) : List (Str × V) := [("kind", kv), ("rules", rv), ("text", .str z), ("rows", .ref t1), ("forms", .ref t2), ("jumps", .ref ja), ("answers", .ref aa)]
def CdAt (H : Hp) (x C : Addr) (kd : Str) (rv : V) (z : Str) : Prop := ∃ dx t1 t2 ja aa, H x = some (.ins C dx (cdF (.str kd) rv z t1 t2 ja aa)) ∧ H t1 = some (.tup ((linesOf z).map V.str))
def manyF (wh : Str) (nn mm : Int) : List (Str × V) := [("most", .int mm), ("many", .int nn), ("what", .str wh)]
def flyX (C : Addr) (fs : List (Str × V)) (H : Hp) (E : XK) : Prop := ∀ (d : Addr) (H' : Hp), Same H H' → H' d = some (.xd fs) → E (.ref C) (some d) H'
def spInit (CC CL CT CR CK : Addr) : Sp := fun vs H Q E => ∃ (x dx : Addr) (kv rv : V) (z : Str), vs = [.ref x, kv, rv, .str z] ∧ KnV kv ∧ H x = some (.ins CC dx []) ∧
  (kindIn kv = false → flyX CK [("kind", kv)] H E) ∧
  (kindIn kv = true → z.length ≤ 900000 ∧ Rows (linesOf z) ∧
    (∀ m, codeM bookD 30 6 z = .bad m → lineErr CL m H E) ∧ (∀ wh nn mm, codeM bookD 30 6 z = .many wh nn mm → flyX CT (manyF wh nn mm) H E) ∧
    (∀ rs ds jmp, codeM bookD 30 6 z = .ok rs ds jmp → ∀ r, LeastP (kindS kv) ds jmp r → (∀ n, r = some n → lineErr CR (n + 1) H E) ∧ (r = none → ∀ H', (∀ a o, a ≠ x → H a = some o → H' a = some o) → CdAt H' x CC (kindS kv) rv z → Q .non H')))
section
variable {P : Program} {w : World} {K : PySem.W.Frag} {mg : Str → Option Value} {base : Heap}
theorem ok_init {f fC fL CC CL CT CR CK iR iK : Addr} {fd dC dL : FuncData} (F : Fun K "__init__" "BookCode.__init__" sInit f fd) (C : FCode K mg fC dC) (L : FLeast K mg fL dL) (OC : FnOk P w K mg base (CX P w) 7 fC dC ["text", "read_line", "most_lines", "most_ifs"] (spCode P w K mg base 5 CL CT)) (OL : FnOk P w K mg base CX0 3 fL dL ["kind", "forms", "jumps"] (spLeast K))
    (BR : BErr P K mg "Refused" "Refused.__init__" stRef ["line"] CR iR) (BK : BErr P K mg "BadKind" "BadKind.__init__" stKind ["kind"] CK iK) (su : mg "super" = none) (T : Glo mg) (G : GloC P w K mg base) (O : OCd K CC) :
    FnOk P w K mg base (CX P w) 8 f fd ["self", "kind", "rules", "text"] (spInit CC CL CT CR CK) := by
  obtain ⟨kp, gK, tK⟩ := G.kinds
  obtain ⟨t1, gL⟩ := G.lines
  obtain ⟨t2, gI⟩ := G.ifs
  obtain ⟨fr, gR, D⟩ := G.rdr
  refine F.okX scInit (fun vs H Q E h => ?_) (fun cdv A outer s H vs Q E hr h => ?_)
  · obtain ⟨x, dx, kv, rv, z, rfl, _⟩ := h
    rfl
  · obtain ⟨x, dx, kv, rv, z, rfl, hk, hx, kbadK, kin⟩ := h
    have hr3 := hr.mono (show 3 ≤ 7 by decide)
    refine ⟨_, (pss_cons (ps_if (pt_cmpR op_notIn_seq (pv 1) (pe_glob rfl gK (v := .ref kp) rfl) (by rfl)) (pss_one (ps_raise rfl (takes_of rfl rfl rfl rfl) (pmk_err BK.T BK.F (by decide) BK.g su hr (pa_cons (pv 1) pa_nil)))) pss_nil)
 (pss_cons (ps_asg (pe_call OC hr rfl C.g C.u.kp C.b .nil (passes_call (takes_of rfl rfl rfl rfl) fun _ _ _ _ z => z) (pa_cons (pv 3) (pa_cons (pe_glob rfl gR (v := .ref fr) rfl) (pa_cons (pe_glob rfl gL (v := .int 30) ⟨_, rfl⟩) (pa_cons (pe_glob rfl gI (v := .int 6) ⟨_, rfl⟩) pa_nil))))) (pg_tup rfl (pgs_cons (pg_name (i := 4) scInit.nd rfl (.inl rfl)) (pgs_cons (pg_name (i := 5) scInit.nd rfl (.inl rfl)) (pgs_cons (pg_name (i := 6) scInit.nd rfl (.inl rfl)) pgs_nil)))))
 (pss_cons (ps_set (i := 7) scInit.nd rfl (.inl rfl) (pe_call OL hr3 rfl L.g L.u.kp L.b .nil pass0 (pa_cons (pv 1) (pa_cons (pv 5) (pa_cons (pv 6) pa_nil)))))
 (pss_cons (ps_if (pt_cmpR op_notN (pv 7) pe_non (nomark _)) (pss_one (ps_raise rfl (takes_of rfl rfl rfl rfl) (pmk_err BR.T BR.F (by decide) BR.g su hr (pa_cons (pv 7) pa_nil)))) pss_nil)
 (pss_cons (ps_fld (pv 0) (pv 1) rfl)
 (pss_cons (ps_fld (pv 0) (pv 2) rfl)
 (pss_cons (ps_fld (pv 0) (pv 3) rfl)
 (pss_cons (ps_fld (pv 0) (pe_callTy call_tuple_of (by rfl) T.tuple (by decide +kernel) (pa_cons (pv 4) pa_nil)) rfl)
 (pss_cons (ps_fld (pv 0) (pe_callTy call_tuple_of (by rfl) T.tuple (by decide +kernel) (pa_cons (pv 5) pa_nil)) rfl)
 (pss_cons (ps_fld (pv 0) (pv 6) rfl)
 (pss_one (ps_fld (pv 0) pe_dnewK rfl)))))))))))), ?_⟩
    have hflat : flatV kv = true := by cases hk <;> rfl
    have hin : inV kv (kindsB.map V.str) = kindIn kv := by
      cases hk with
      | str z => exact in_strs z kindsB
      | int i => rfl
      | non => rfl
    refine ⟨_, rfl, kp, _, rfl, .inr tK.sq, hflat, flat_strs kindsB, _, rfl, ?_⟩
    rw [hin]
    cases hkin : kindIn kv with
    | false => exact iteT ⟨_, rfl, rfl, (fun z => by cases z), fun _ d hd => kbadK hkin d _ (same_new hd) upd_same⟩
    | true =>
    refine iteF ?_
    obtain ⟨hz, ro, kbad, kmany, kok⟩ := kin hkin
    obtain ⟨kd, rfl⟩ : ∃ kd, kv = .str kd := by
      cases hk with
      | str z => exact ⟨z, rfl⟩
      | int i => cases hkin
      | non => cases hkin
    refine ⟨_, rfl, z, fr, 30, 6, bookD, rfl, hz, ro, D, fun rs ds jmp ra fa ja t xs H2 e s2 hra hfa td has hja ht => ?_, kbad, kmany⟩
    have kok := kok rs ds jmp e
    obtain ⟨e1, eF, l30, l5⟩ := codeM_ok e
    subst e1
    have lds := forms_len _ _ _ _ _ eF
    have fok : ∀ d ∈ ds, FOk d := forms_all row_book _ _ _ _ _ eF (fun _ h => absurd h List.not_mem_nil)
    have pok : BksOk ds := fun d hd => (fok d hd).bk
    have J : JOk ds jmp := jumps_of eF
    simp only [List.length_nil] at lds
    refine ⟨t, _, rfl, SqT.of ht, rfl, _, _, rfl, _, _, rfl, _, _, rfl, rfl, ?_⟩
    refine ⟨_, rfl, _, rfl, _, rfl, kd, fa, ja, ds, jmp, rfl, ⟨⟨xs, hfa, td⟩, has⟩, pok, hja, J, by omega, (by show ((ds.drop 0).filter isIfD).length ≤ 20; rw [List.drop_zero]; omega), fun r H3 hv s3 => ?_⟩
    obtain ⟨kref, kend⟩ := kok r hv
    have s03 := s2.trans s3
    refine ⟨_, rfl, rfl, _, rfl, ?_⟩
    cases r with
    | some n => exact iteNN (fun y => nomatch y) ⟨_, rfl, rfl, (fun z => by cases z), fun _ d hd => kref n rfl d _ (s03.trans (same_new hd)) upd_same⟩
    | none =>
    refine iteNS rfl ?_
    have hx3 := s03 _ _ hx
    have nra : ra ≠ x := fun y => by
      have := s2 _ _ hx
      rw [y, this] at hra; cases hra
    have nfa : fa ≠ x := fun y => by
      have := s2 _ _ hx
      rw [y, this] at hfa; cases hfa
    refine ⟨_, rfl, _, rfl, x, CC, dx, [], rfl, hx3, O.cl, O.no "kind" (by decide +kernel), by decide, ?_⟩
    have u1 : upd H3 x (.ins CC dx (putF "kind" (.str kd) [])) x = some (.ins CC dx [("kind", .str kd)]) := upd_same
    have b1 : ∀ c o, c ≠ x → H3 c = some o → upd H3 x (.ins CC dx (putF "kind" (.str kd) [])) c = some o := fun c o n e => by rw [upd_ne n]; exact e
    generalize upd H3 x (.ins CC dx (putF "kind" (.str kd) [])) = G0 at *
    refine ⟨_, rfl, _, rfl, x, CC, dx, _, rfl, u1, O.cl, O.no "rules" (by decide +kernel), (by show 1 < 1000; decide), ?_⟩
    have u2 : upd G0 x (.ins CC dx (putF "rules" rv [("kind", .str kd)])) x = some (.ins CC dx [("kind", .str kd), ("rules", rv)]) := upd_same
    have b2 : ∀ c o, c ≠ x → G0 c = some o → upd G0 x (.ins CC dx (putF "rules" rv [("kind", .str kd)])) c = some o := fun c o n e => by rw [upd_ne n]; exact e
    generalize upd G0 x (.ins CC dx (putF "rules" rv [("kind", .str kd)])) = G1 at *
    refine ⟨_, rfl, _, rfl, x, CC, dx, _, rfl, u2, O.cl, O.no "text" (by decide +kernel), (by show 2 < 1000; decide), ?_⟩
    have u3 : upd G1 x (.ins CC dx (putF "text" (.str z) [("kind", .str kd), ("rules", rv)])) x = some (.ins CC dx [("kind", .str kd), ("rules", rv), ("text", .str z)]) := upd_same
    have b3 : ∀ c o, c ≠ x → G1 c = some o → upd G1 x (.ins CC dx (putF "text" (.str z) [("kind", .str kd), ("rules", rv)])) c = some o := fun c o n e => by rw [upd_ne n]; exact e
    generalize upd G1 x (.ins CC dx (putF "text" (.str z) [("kind", .str kd), ("rules", rv)])) = G2 at *
    have b03 : ∀ c o, c ≠ x → H3 c = some o → G2 c = some o := fun c o n e => b3 c o n (b2 c o n (b1 c o n e))
    have hra2 := b03 _ _ nra (s3 _ _ hra)
    refine ⟨_, rfl, ra, _, rfl, .inl ⟨SqL.of hra2, fun t3 ht3 => ?_⟩⟩
    have s4 : Same G2 _ := same_new (o := .tup ((linesOf z).map V.str)) ht3
    have t33 : upd G2 t3 (.tup ((linesOf z).map V.str)) t3 = some (.tup ((linesOf z).map V.str)) := upd_same
    generalize upd G2 t3 (.tup ((linesOf z).map V.str)) = G3 at *
    have n3 : t3 ≠ x := fun y => by rw [y, u3] at ht3; cases ht3
    refine ⟨_, rfl, x, CC, dx, _, rfl, s4 _ _ u3, O.cl, O.no "rows" (by decide +kernel), (by show 3 < 1000; decide), ?_⟩
    have u4 : upd G3 x (.ins CC dx (putF "rows" (.ref t3) [("kind", .str kd), ("rules", rv), ("text", .str z)])) x = some (.ins CC dx [("kind", .str kd), ("rules", rv), ("text", .str z), ("rows", .ref t3)]) := upd_same
    have b4 : ∀ c o, c ≠ x → G3 c = some o → upd G3 x (.ins CC dx (putF "rows" (.ref t3) [("kind", .str kd), ("rules", rv), ("text", .str z)])) c = some o := fun c o n e => by rw [upd_ne n]; exact e
    generalize upd G3 x (.ins CC dx (putF "rows" (.ref t3) [("kind", .str kd), ("rules", rv), ("text", .str z)])) = G4 at *
    have hfa4 := b4 _ _ nfa (s4 _ _ (b03 _ _ nfa (s3 _ _ hfa)))
    refine ⟨_, rfl, fa, _, rfl, .inl ⟨SqL.of hfa4, fun t5 ht5 => ?_⟩⟩
    have s5 : Same G4 _ := same_new (o := .tup xs) ht5
    generalize upd G4 t5 (.tup xs) = G5 at *
    refine ⟨_, rfl, x, CC, dx, _, rfl, s5 _ _ u4, O.cl, O.no "forms" (by decide +kernel), (by show 4 < 1000; decide), ?_⟩
    have u6 : upd G5 x (.ins CC dx (putF "forms" (.ref t5) [("kind", .str kd), ("rules", rv), ("text", .str z), ("rows", .ref t3)])) x = some (.ins CC dx [("kind", .str kd), ("rules", rv), ("text", .str z), ("rows", .ref t3), ("forms", .ref t5)]) := upd_same
    have b6 : ∀ c o, c ≠ x → G5 c = some o → upd G5 x (.ins CC dx (putF "forms" (.ref t5) [("kind", .str kd), ("rules", rv), ("text", .str z), ("rows", .ref t3)])) c = some o := fun c o n e => by rw [upd_ne n]; exact e
    generalize upd G5 x (.ins CC dx (putF "forms" (.ref t5) [("kind", .str kd), ("rules", rv), ("text", .str z), ("rows", .ref t3)])) = G6 at *
    refine ⟨_, rfl, _, rfl, x, CC, dx, _, rfl, u6, O.cl, O.no "jumps" (by decide +kernel), (by show 5 < 1000; decide), ?_⟩
    have u7 : upd G6 x (.ins CC dx (putF "jumps" (.ref ja) [("kind", .str kd), ("rules", rv), ("text", .str z), ("rows", .ref t3), ("forms", .ref t5)])) x = some (.ins CC dx [("kind", .str kd), ("rules", rv), ("text", .str z), ("rows", .ref t3), ("forms", .ref t5), ("jumps", .ref ja)]) := upd_same
    have b7 : ∀ c o, c ≠ x → G6 c = some o → upd G6 x (.ins CC dx (putF "jumps" (.ref ja) [("kind", .str kd), ("rules", rv), ("text", .str z), ("rows", .ref t3), ("forms", .ref t5)])) c = some o := fun c o n e => by rw [upd_ne n]; exact e
    generalize upd G6 x (.ins CC dx (putF "jumps" (.ref ja) [("kind", .str kd), ("rules", rv), ("text", .str z), ("rows", .ref t3), ("forms", .ref t5)])) = G7 at *
    intro d8 hd8
    have s8 : Same G7 _ := same_new (o := .dK []) hd8
    generalize upd G7 d8 (.dK []) = G8 at *
    refine ⟨_, rfl, x, CC, dx, _, rfl, s8 _ _ u7, O.cl, O.no "answers" (by decide +kernel), (by show 6 < 1000; decide), ?_⟩
    refine kend rfl _ (fun c o n e => ?_) ⟨dx, t3, t5, ja, d8, upd_same, ?_⟩
    · rw [upd_ne n]
      exact s8 _ _ (b7 c o n (b6 c o n (s5 _ _ (b4 c o n (s4 _ _ (b03 c o n (s03 _ _ e)))))))
    · rw [upd_ne n3]
      exact s8 _ _ (b7 _ _ n3 (b6 _ _ n3 (s5 _ _ (b4 _ _ n3 t33))))
end
end IdL
namespace IdL
open PySem L2 TL
theorem tl_blank : tl (" " : Str) = [32] := by decide +kernel
theorem split_words {p : List Str} (hp : p ≠ []) (h : ∀ w ∈ p, 32 ∉ tl w) : Txt.split (Txt.join " " p) " " = p :=
  split_join tl_blank (by decide +kernel) hp h
theorem joinL_mem (S : List Nat) : ∀ (ps : List (List Nat)) (c : Nat), c ∈ joinL S ps → c ∈ S ∨ ∃ p ∈ ps, c ∈ p
  | [], c, h => by cases h
  | [p], c, h => .inr ⟨p, List.mem_singleton.mpr rfl, h⟩
  | p :: q :: r, c, h => by
    rcases List.mem_append.mp (show c ∈ p ++ (S ++ joinL S (q :: r)) from h) with h | h
    · exact .inr ⟨p, List.mem_cons_self .., h⟩
    rcases List.mem_append.mp h with h | h
    · exact .inl h
    · rcases joinL_mem S (q :: r) c h with h | ⟨p', hp, h⟩
      · exact .inl h
      · exact .inr ⟨p', List.mem_cons_of_mem _ hp, h⟩
theorem joinL_len (S : List Nat) : ∀ (ps : List (List Nat)), (joinL S ps).length ≤ (ps.map List.length).sum + ps.length * S.length
  | [] => Nat.zero_le _
  | [p] => by
    show p.length ≤ p.length + 0 + (0 + 1) * S.length
    omega
  | p :: q :: r => by
    have ih := joinL_len S (q :: r)
    show (p ++ (S ++ joinL S (q :: r))).length ≤ p.length + ((q :: r).map List.length).sum + ((q :: r).length + 1) * S.length
    rw [List.length_append, List.length_append, Nat.add_mul]
    omega
theorem join_asc {y : Str} {ps : List Str} (hy : Asc y) (h : ∀ p ∈ ps, Asc p) : Asc (Txt.join y ps) := fun c hc => by
  rw [join_eq, tl_join] at hc
  rcases joinL_mem _ _ _ hc with y' | ⟨p, hp, y'⟩
  · exact hy c y'
  · obtain ⟨q, hq, rfl⟩ := List.mem_map.mp hp
    exact h q hq c y'
theorem map_len (ps : List Str) : ps.map (·.length) = (ps.map tl).map List.length := by
  rw [List.map_map]
  exact List.map_congr_left fun z _ => len_tl z
theorem join_len (y : Str) (ps : List Str) : (Txt.join y ps).length ≤ (ps.map (·.length)).sum + ps.length * y.length := by
  rw [join_eq, len_tl, tl_join, map_len, len_tl y]
  have := joinL_len (tl y) (ps.map tl)
  rw [List.length_map] at this
  exact this
theorem start0 {z : Str} (a : Asc z) (h : tl z ≠ []) : ∃ c, (tl z)[0]? = some c ∧ (Txt.startswith z "0" = decide (c = 48)) := by
  obtain ⟨⟨l⟩⟩ := z
  cases l with
  | nil => exact absurd rfl h
  | cons c r =>
    refine ⟨c, rfl, ?_⟩
    unfold Txt.startswith
    rw [StrLaws.subAt_eq]
    have e1 : (("0" : Str).length) = 1 := by decide +kernel
    have e2 : (("0" : Str).cps.toList) = [48] := by decide +kernel
    have e3 : (⟨⟨c :: r⟩⟩ : Str).length = r.length + 1 := rfl
    rw [e1, e2, e3, decide_eq_true (by omega), Bool.true_and]
    show ([c] == [48]) = _
    by_cases h : c = 48
    · subst h; rfl
    · rw [decide_eq_false h]
      exact beq_eq_false_iff_ne.mpr fun y => h (List.cons.inj y).1
/-! ### numbers as texts -/
def nz (n : Nat) : Str := toString (n : Int)
theorem numL_head : ∀ n : Nat, 0 < n → ∃ c r, numL n = c :: r ∧ c ≠ 48 := fun n => by
  induction n using Nat.strongRecOn with
  | _ n ih =>
    intro h
    by_cases h10 : n < 10
    · exact ⟨48 + n, [], numL_lt h10, by omega⟩
    · obtain ⟨c, r, e, hc⟩ := ih (n / 10) (by omega) (by omega)
      refine ⟨c, r ++ [48 + n % 10], ?_, hc⟩
      rw [numL_step (by omega), e]; rfl
theorem nz_tl (n : Nat) : tl (nz n) = numL n := tl_num n
theorem nz_asc (n : Nat) : Asc (nz n) := fun c hc => by
  rw [nz_tl] at hc
  have := numL_digits n c hc
  omega
theorem nz_free (n : Nat) : 32 ∉ tl (nz n) := by
  rw [nz_tl]
  exact numL_free (.inl (by decide))
theorem nz_len {n : Nat} (h : n < 10 ^ 30) : (nz n).length ≤ 30 := by
  rw [len_tl, nz_tl]
  exact numL_len (by decide) h
theorem nz_num {n : Nat} (h : n < 10 ^ 30) : isNum (nz n) = true := by
  have hl := nz_len h
  have hd : Txt.isdigit (nz n) = true := by
    unfold Txt.isdigit
    rw [Bool.and_eq_true]
    refine ⟨decide_eq_true ?_, ?_⟩
    · rw [len_tl, nz_tl]
      exact List.length_pos_iff.mpr (numL_ne n)
    · rw [Array.all_eq_true']
      intro c hc
      have hc' : c ∈ tl (nz n) := Array.mem_toList_iff.mpr hc
      rw [nz_tl] at hc'
      have := numL_digits n c hc'
      rw [dig_asc (by omega), decide_eq_true (by omega), decide_eq_true (by omega)]; rfl
  unfold isNum
  rw [hd, decide_eq_true hl, Bool.true_and, Bool.true_and]
  by_cases h0 : n = 0
  · subst h0
    rw [show nz 0 = "0" from rfl, decide_eq_true rfl]; rfl
  · obtain ⟨c, e1, e2⟩ := start0 (nz_asc n) (by rw [nz_tl]; exact numL_ne n)
    obtain ⟨c', r, e3, e4⟩ := numL_head n (by omega)
    rw [nz_tl, e3] at e1
    cases e1
    rw [e2, decide_eq_false e4, Bool.not_false, Bool.or_true]
theorem nz_val (n : Nat) : numV (nz n) = n := by
  unfold numV
  rw [nz_tl, numL_val]
/-! ### sums as the law builds them -/
abbrev Tm : Type := Int × Option Nat
def sizeS : Str := "size"
def atm : Option Nat → Str
  | none => sizeS
  | some n => nz n
def atmD : Option Nat → PyData
  | none => .str sizeS
  | some n => .int n
def tmD (t : Tm) : PyData := .tuple [.int t.1, atmD t.2]
def sgn (i : Int) : Str := if 0 < i then "+" else "-"
def restW : List Tm → List Str
  | [] => []
  | t :: ts => sgn t.1 :: atm t.2 :: restW ts
def termsW : List Tm → List Str
  | [] => []
  | t :: ts => atm t.2 :: restW ts
structure TmOk (t : Tm) : Prop where
  sg : t.1 = 1 ∨ t.1 = -1
  few : ∀ n, t.2 = some n → n < 10 ^ 30
def szs (ts : List Tm) : Nat := (ts.filter fun t => t.2.isNone).length
theorem atm_size : isNum sizeS = false := by decide +kernel
theorem atm_ne {n : Nat} (h : n < 10 ^ 30) : nz n ≠ sizeS := fun e => by
  have := nz_num h
  rw [e, atm_size] at this; cases this
theorem atm_termD {a : Option Nat} (h : ∀ n, a = some n → n < 10 ^ 30) : termD (atm a) [sizeS] = atmD a := by
  cases a with
  | none =>
    unfold termD
    show (if isNum sizeS = true then _ else if sizeS ∈ [sizeS] then _ else _) = _
    rw [if_neg (by rw [atm_size]; exact Bool.false_ne_true), if_pos (List.mem_singleton.mpr rfl)]; rfl
  | some n =>
    unfold termD
    show (if isNum (nz n) = true then _ else _) = _
    rw [if_pos (nz_num (h n rfl))]
    show PyData.int (numV (nz n)) = _
    rw [nz_val]; rfl
theorem atm_non {a : Option Nat} (h : ∀ n, a = some n → n < 10 ^ 30) : ¬ termV (atm a) [sizeS] = .non := fun e => by
  have := term_non.mp e
  rw [atm_termD h] at this
  cases a <;> cases this
theorem val_put_ne (k k' : Key) (v : V) (hk : k ≠ k') : ∀ kvs : List (Key × V), valV (putK kvs k v) k' = valV kvs k' := fun kvs => by
  rw [valV_put, if_neg (Ne.symm hk)]
theorem sgn_ok {i : Int} (h : i = 1 ∨ i = -1) : (sgn i = "+" ∨ sgn i = "-") ∧ (if sgn i = "+" then (1 : Int) else -1) = i := by
  rcases h with rfl | rfl
  · exact ⟨.inl rfl, rfl⟩
  · exact ⟨.inr rfl, rfl⟩
theorem one_term {t : Tm} (h : TmOk t) (ws : List Str) (i : Nat) (acc : List PyData) (met : List (Key × V)) (sg : Int) (he : i % 2 = 0) (hs : t.2 = none → valV met (.inr sizeS) = none) :
    mSum [sizeS] (atm t.2 :: ws) i acc met sg = mSum [sizeS] ws (i + 1) (acc ++ [.tuple [.int sg, atmD t.2]]) (putK met (.inr (atm t.2)) (.bl true)) sg := by
  rw [mSum_cons, if_neg (by omega), if_neg ?_, atm_termD h.few]
  rintro (e | ⟨e, f⟩)
  · exact atm_non h.few e
  · cases hh : t.2 with
    | none =>
      rw [hh] at f
      have := hs hh
      rw [show atm none = sizeS from rfl, this] at f; cases f
    | some n =>
      rw [hh] at e
      exact atm_ne (h.few n hh) (List.mem_singleton.mp e)
theorem rest_sum : ∀ (ts : List Tm) (i : Nat) (acc : List PyData) (met : List (Key × V)) (sg : Int), i % 2 = 1 → (∀ t ∈ ts, TmOk t) → ((szs ts = 0) ∨ (szs ts = 1 ∧ valV met (.inr sizeS) = none)) →
    mSum [sizeS] (restW ts) i acc met sg = some (acc ++ ts.map tmD)
  | [], i, acc, met, sg, _, _, _ => by rw [List.map_nil, List.append_nil]; rfl
  | t :: ts, i, acc, met, sg, hi, ht, hz => by
    have h := ht t (List.mem_cons_self ..)
    obtain ⟨e1, e2⟩ := sgn_ok h.sg
    show mSum [sizeS] (sgn t.1 :: atm t.2 :: restW ts) i acc met sg = _
    rw [mSum_cons, if_pos hi, if_neg (fun y => e1.elim y.1 y.2), e2]
    have hz' : t.2 = none → szs ts = 0 ∧ valV met (.inr sizeS) = none := fun e => by
      have : szs (t :: ts) = szs ts + 1 := by
        unfold szs
        rw [List.filter_cons_of_pos (by rw [e]; rfl)]; rfl
      rcases hz with z | ⟨z, v⟩
      · omega
      · exact ⟨by omega, v⟩
    rw [one_term h _ _ _ _ _ (by omega) (fun e => (hz' e).2)]
    rw [rest_sum ts (i + 1 + 1) _ _ _ (by omega) (fun y hy => ht y (List.mem_cons_of_mem _ hy)) ?_]
    · rw [List.append_assoc]; rfl
    · cases hh : t.2 with
      | none => exact .inl (hz' hh).1
      | some n =>
        have : szs (t :: ts) = szs ts := by
          unfold szs
          rw [List.filter_cons_of_neg (by rw [hh]; exact Bool.false_ne_true)]
        rw [this] at hz
        refine hz.imp id fun y => ⟨y.1, ?_⟩
        show valV (putK met (.inr (nz n)) _) _ = _
        rw [val_put_ne _ _ _ (fun z => atm_ne (h.few n hh) (Sum.inr.inj z))]
        exact y.2
theorem restW_len : ∀ ts : List Tm, (restW ts).length = 2 * ts.length
  | [] => rfl
  | t :: ts => by
    show (restW ts).length + 1 + 1 = 2 * (ts.length + 1)
    rw [restW_len ts]; omega
/-- what is built is read back -/
theorem sum_terms {ts : List Tm} (hne : ts ≠ []) (h4 : ts.length ≤ 4) (ht : ∀ t ∈ ts, TmOk t) (h1 : ∀ t r, ts = t :: r → t.1 = 1) (hz : szs ts ≤ 1) : sumD (termsW ts) [sizeS] = .tuple (ts.map tmD) := by
  cases ts with
  | nil => exact absurd rfl hne
  | cons t ts =>
    have h := ht t (List.mem_cons_self ..)
    have hl := restW_len ts
    have l4 : ts.length + 1 ≤ 4 := h4
    have hw : (termsW (t :: ts)).length = 2 * ts.length + 1 := by
      show (restW ts).length + 1 = _
      rw [hl]
    unfold sumD
    rw [if_neg (by rw [hw]; omega)]
    have e : mSum [sizeS] (termsW (t :: ts)) 0 [] [] 1 = some ((t :: ts).map tmD) := by
      show mSum [sizeS] (atm t.2 :: restW ts) 0 [] [] 1 = _
      rw [one_term h _ _ _ _ _ rfl (fun _ => rfl), rest_sum ts _ _ _ _ rfl (fun y hy => ht y (List.mem_cons_of_mem _ hy)) ?_]
      · show some ([.tuple [.int 1, atmD t.2]] ++ ts.map tmD) = some (.tuple [.int t.1, atmD t.2] :: ts.map tmD)
        rw [h1 t ts rfl]; rfl
      · cases hh : t.2 with
        | none =>
          have : szs (t :: ts) = szs ts + 1 := by
            unfold szs
            rw [List.filter_cons_of_pos (by rw [hh]; rfl)]; rfl
          exact .inl (by omega)
        | some n =>
          have : szs (t :: ts) = szs ts := by
            unfold szs
            rw [List.filter_cons_of_neg (by rw [hh]; exact Bool.false_ne_true)]
          by_cases z : szs ts = 0
          · exact .inl z
          · refine .inr ⟨by omega, ?_⟩
            show valV (putK [] (Sum.inr (nz n) : Key) _) _ = _
            rw [val_put_ne _ _ _ (fun z => atm_ne (h.few n hh) (Sum.inr.inj z))]; rfl
    rw [e]
theorem atm_ok {t : Tm} (h : TmOk t) : 32 ∉ tl (atm t.2) ∧ Asc (atm t.2) ∧ (atm t.2).length ≤ 30 ∧ atm t.2 ≠ "" := by
  cases hh : t.2 with
  | none => exact ⟨by decide +kernel, (by show ∀ c ∈ tl sizeS, c < 128; decide +kernel), by decide +kernel, by decide +kernel⟩
  | some n =>
    refine ⟨nz_free n, nz_asc n, nz_len (h.few n hh), fun e => ?_⟩
    have := nz_num (h.few n hh)
    rw [show nz n = "" from e] at this
    exact absurd this (by decide +kernel)
theorem tm_words_ok : ∀ ts : List Tm, (∀ t ∈ ts, TmOk t) → ∀ w ∈ restW ts, 32 ∉ tl w ∧ Asc w ∧ w.length ≤ 30 ∧ w ≠ ""
  | [], _, w, hw => absurd hw List.not_mem_nil
  | t :: ts, ht, w, hw => by
    have h := ht t (List.mem_cons_self ..)
    rcases List.mem_cons.mp hw with e | hw
    · rcases (sgn_ok h.sg).1 with g | g <;> rw [e, g] <;> exact ⟨by decide +kernel, (by unfold Asc; decide +kernel), by decide +kernel, by decide +kernel⟩
    rcases List.mem_cons.mp hw with e | hw
    · rw [e]; exact atm_ok h
    · exact tm_words_ok ts (fun y hy => ht y (List.mem_cons_of_mem _ hy)) w hw
end IdL
namespace IdL
open PySem L2 TL
abbrev sKeep : Stmt := top 95
abbrev stSum : Stmt := inClass (top 25) 0
abbrev sI : Stmt := inClass (top 96) 0
abbrev sEqR : Stmt := inClass (top 96) 4
def NIr : List Str := ["self", "keep", "terms", "sign", "term"]
theorem scI : FnScope NIr ["self", "keep"] (defScope sI) := ⟨rfl, rfl, rfl, by decide +kernel, rfl, by decide +kernel, by decide +kernel⟩
theorem scEqR : FnScope ["self", "other"] ["self", "other"] (defScope sEqR) := ⟨rfl, rfl, rfl, by decide +kernel, rfl, by decide +kernel, by decide +kernel⟩
theorem scKeep : FnScope ["text", "words"] ["text"] (defScope sKeep) := ⟨rfl, rfl, rfl, by decide +kernel, rfl, by decide +kernel, by decide +kernel⟩
structure FKeep (K : PySem.W.Frag) (mg : Str → Option Value) (f : Addr) (d : FuncData) : Prop where
  u : Fun K "read_keep" "read_keep" sKeep f d
  b : Binds K d ["text"] []
  g : mg "read_keep" = some (.ref f)
/-- an error of the class at C flies, its fields at d -/
def errX (C : Addr) (H : Hp) (E : XK) : Prop := ∀ (d : Addr) (H' : Hp), Same H H' → (∃ fs, H' d = some (.xd fs)) → E (.ref C) (some d) H'
/-! ### a sum is read -/
def keepD (z : Str) : PyData := if ("" : Str) ∈ Txt.split z " " then .none else sumD (Txt.split z " ") [sizeS]
def keepV : V → PyData
  | .str z => keepD z
  | _ => .none
def KeepIn : V → Prop
  | .str z => Asc z ∧ z.length ≤ 900000
  | .non => True
  | _ => False
def spKeep (K : PySem.W.Frag) : Sp := fun vs H Q _ => ∃ v : V, vs = [v] ∧ KeepIn v ∧ ∀ u H', Same H H' → TD K H' u (keepV v) → Q u H'
section
variable {P : Program} {w : World} {K : PySem.W.Frag} {mg : Str → Option Value} {base : Heap}
theorem ok_keep {f fP fS : Addr} {fd dP dS : FuncData} (F : Fun K "read_keep" "read_keep" sKeep f fd) (Sp : FSpaced K mg fP dP) (S : FSum K mg fS dS) (OS : FnOk P w K mg base CX0 3 fS dS ["words", "names"] (spSum K)) (isi : mg "isinstance" = none) (ms : mg "str" = none) : FnOk P w K mg base CX0 4 f fd ["text"] (spKeep K) := by
  have OP : FnOk P w K mg base CX0 1 fP dP ["words"] (spSpaced K) := ok_spaced Sp.u
  refine F.ok scKeep (fun vs H Q E h => ?_) (fun cdv A outer s H vs Q E hr h => ?_)
  · obtain ⟨v, rfl, _⟩ := h
    rfl
  · obtain ⟨v, rfl, hv, k⟩ := h
    refine ⟨_, (pss_cons (ps_if (pt_not (pt_val (pe_callB call_isi (by rfl) isi (by decide +kernel) (pa_cons (pv 0) (pa_cons (pe_bltn (v := .ty "str") rfl ms (by decide +kernel) rfl) pa_nil))))) (pss_one (ps_ret pe_non)) pss_nil)
 (pss_cons (ps_set (i := 1) scKeep.nd rfl (.inl rfl) (pe_split (pv 0) pe_str))
 (pss_one (ps_ret (pe_ifExp (pt_val (pe_call OP (hr.mono (by decide)) rfl Sp.g Sp.u.kp Sp.b .nil pass0 (pa_cons (pv 1) pa_nil))) (pe_call OS hr rfl S.g S.u.kp S.b .nil pass0 (pa_cons (pv 1) (pa_cons (pe_tup (pa_cons pe_str pa_nil)) pa_nil))) pe_non))))), ?_⟩
    cases v with
    | non =>
      refine ⟨_, rfl, .non, .ty "str", .type "NoneType", .type "str", false, rfl, .ty _, .base .non, kit_ty (by decide +kernel), _, rfl, ?_⟩
      exact iteT (k _ _ (Same.refl H) .non)
    | str z =>
      obtain ⟨az, lz⟩ := hv
      have l1 : 1 ≤ sizeLine := by decide
      refine ⟨_, rfl, .str z, .ty "str", .type "str", .type "str", true, rfl, .ty _, .base (.str z), kit_ty (by decide +kernel), _, rfl, ?_⟩
      refine iteF ?_
      refine ⟨_, rfl, ⟨_, rfl⟩, z, _, rfl, rfl, (by decide +kernel), (by rw [sizeLine_eq]; omega), fun wl hwl => ?_⟩
      have s1 : Same H _ := same_new (o := .lst ((Txt.split z " ").map V.str)) hwl
      have w1 : upd H wl (.lst ((Txt.split z " ").map V.str)) wl = some (.lst ((Txt.split z " ").map V.str)) := upd_same
      show gName 1 _ _ (upd H wl (.lst ((Txt.split z " ").map V.str))) _
      generalize upd H wl (.lst ((Txt.split z " ").map V.str)) = H1 at *
      have pl : Plain (Txt.split z " ") := row_plain az lz
      refine ⟨_, rfl, wl, _, rfl, SqL.of w1, _, rfl, ?_⟩
      have ek : keepV (.str z) = if ("" : Str) ∈ Txt.split z " " then .none else sumD (Txt.split z " ") [sizeS] := rfl
      by_cases h : ("" : Str) ∈ Txt.split z " "
      · rw [if_pos h] at ek
        refine iteNS h (k _ _ s1 (by rw [ek]; exact .non))
      · rw [if_neg h] at ek
        refine iteNN h ?_
        refine ⟨_, rfl, l1, fun q hq => ?_⟩
        have s2 : Same H1 _ := same_new (o := .tup (([sizeS] : List Str).map V.str)) hq
        refine ⟨wl, q, _, [sizeS], rfl, SqL.of (s2 _ _ w1), SqT.of upd_same, pl, fun u G sG tG => ?_⟩
        exact k u G ((s1.trans s2).trans sG) (by rw [ek]; exact tG)
    | _ => exact hv.elim
end
def fldK : List Str := ["keep", "times", "more"]
structure OBk (K : PySem.W.Frag) (C : Addr) : Prop where
  cl : Cls K C
  no : ∀ f ∈ fldK, NoAttr K C f
def selA (ts : List Tm) : List Int := (ts.filter fun t => t.2.isNone).map (·.1)
def selB (ts : List Tm) : List Int := ts.filterMap fun t => t.2.map fun n => t.1 * (n : Int)
def timesOf (ts : List Tm) : Int := (selA ts).sum
def moreOf (ts : List Tm) : Int := (selB ts).sum
def rulF (z : Str) (t m : Int) : List (Str × V) := [("keep", .str z), ("times", .int t), ("more", .int m)]
def RulAt (H : Hp) (x C : Addr) (z : Str) (t m : Int) : Prop := ∃ dx, H x = some (.ins C dx (rulF z t m))
def atmV : Option Nat → V
  | none => .str sizeS
  | some n => .int n
theorem tds_get {K : PySem.W.Frag} {H : Hp} : ∀ {xs : List V} {ds : List PyData}, TDs K H xs ds → ∀ {i : Nat} {x : V}, xs[i]? = some x → ∃ d, ds[i]? = some d ∧ TD K H x d
  | _, _, .nil, i, x, h => by cases h
  | _, _, .cons a t, 0, x, h => by cases h; exact ⟨_, rfl, a⟩
  | _, _, .cons a t, i + 1, x, h => tds_get t (i := i) h
theorem term_get {K : PySem.W.Frag} {H : Hp} {xs : List V} {ts : List Tm} (h : TDs K H xs (ts.map tmD)) {i : Nat} {x : V} (hx : xs[i]? = some x) : ∃ t p, ts[i]? = some t ∧ x = .ref p ∧ SqT K H p [.int t.1, atmV t.2] := by
  obtain ⟨d, hd, td⟩ := tds_get h hx
  rw [List.getElem?_map] at hd
  obtain ⟨t, ht, rfl⟩ := Option.map_eq_some_iff.mp hd
  obtain ⟨s, a⟩ := t
  cases a with
  | none =>
    have td : TD K H x (.tuple [.int s, .str sizeS]) := td
    cases td with
    | tup q r =>
      cases r with
      | cons r1 r2 =>
        cases r2 with
        | cons r2 r3 =>
          cases r3
          cases r1
          cases r2
          exact ⟨_, _, ht, rfl, q⟩
  | some n =>
    have td : TD K H x (.tuple [.int s, .int n]) := td
    cases td with
    | tup q r =>
      cases r with
      | cons r1 r2 =>
        cases r2 with
        | cons r2 r3 =>
          cases r3
          cases r1
          cases r2
          exact ⟨_, _, ht, rfl, q⟩
theorem KeepT.ins {H : Hp} {p C dx : Addr} {fs : List (Str × V)} {o : HO} (e : H p = some (.ins C dx fs)) : KeepT H (upd H p o) := fun a xs h => by
  have ne : a ≠ p := fun z => by
    subst z
    rcases h with h | ⟨o, h⟩ <;> rw [e] at h <;> cases h
  rcases h with h | ⟨o, h⟩
  · exact .inl (by rw [upd_ne ne]; exact h)
  · exact .inr ⟨o, by rw [upd_ne ne]; exact h⟩
theorem take_snoc_ {α : Type} {l : List α} {i : Nat} {x : α} (h : l[i]? = some x) : l.take (i + 1) = l.take i ++ [x] := by
  rw [List.take_add_one, h]; rfl
theorem selA_snoc (ts : List Tm) (t : Tm) : selA (ts ++ [t]) = selA ts ++ (if t.2.isNone = true then [t.1] else []) := by
  unfold selA
  rw [List.filter_append, List.map_append]
  cases h : t.2 with
  | none => rw [List.filter_cons_of_pos (by rw [h]; rfl)]; rfl
  | some n => rw [List.filter_cons_of_neg (by rw [h]; exact Bool.false_ne_true)]; rfl
theorem selB_snoc (ts : List Tm) (t : Tm) : selB (ts ++ [t]) = selB ts ++ (match t.2 with | none => [] | some n => [t.1 * (n : Int)]) := by
  unfold selB
  rw [List.filterMap_append]
  cases h : t.2 with
  | none => rw [List.filterMap_cons_none (by rw [h]; rfl)]; rfl
  | some n => rw [List.filterMap_cons_some (b := t.1 * (n : Int)) (by rw [h]; rfl)]; rfl
theorem selA_len (ts : List Tm) : (selA ts).length ≤ ts.length := by
  unfold selA
  rw [List.length_map]
  exact List.length_filter_le _ _
theorem selB_len (ts : List Tm) : (selB ts).length ≤ ts.length := List.length_filterMap_le _ _
def spI (CC CM : Addr) : Sp := fun vs H Q E => ∃ (x dx : Addr) (v : V), vs = [.ref x, v] ∧ KeepIn v ∧ H x = some (.ins CC dx []) ∧
  ((keepV v = .none ∧ errX CM H E) ∨ ∃ z ts, v = .str z ∧ keepD z = .tuple (ts.map tmD) ∧ (∀ t ∈ ts, TmOk t) ∧ ts.length ≤ 1000 ∧ ∀ H', (∀ a o, a ≠ x → H a = some o → H' a = some o) → H' x = some (.ins CC dx (rulF z (timesOf ts) (moreOf ts))) → Q .non H')
def spEq (CC : Addr) : Sp := fun vs H Q _ => ∃ (x : Addr) (v : V) (z : Str) (t m : Int), vs = [.ref x, v] ∧ RulAt H x CC z t m ∧
  ((∃ (y : Addr) (z' : Str) (t' m' : Int), v = .ref y ∧ RulAt H y CC z' t' m' ∧ Q (.bl (decide (z = z'))) H) ∨ (∃ s : Str, v = .str s ∧ Q (.bl false) H))
/-- what isinstance asks of the class -/
structure InsF (K : PySem.W.Frag) (C : Addr) : Prop where
  gc : PySem.W.findIn K (.ref C) "__class__" = some (some (.builtin "object.__class__"))
  hn : PySem.W.specialIn K (.builtin "object.__class__") "__get__" = some (some (.builtin "getset_descriptor.__get__"))
  tk : PySem.W.takesIn K (.builtin "object.__class__") = some true
  hm : PySem.W.mroIn K C (.type "object") = some true
  yes : PySem.W.kitOne K (.ref C) (.ref C) = some true
  str : PySem.W.kitOne K (.type "str") (.ref C) = some false
section
variable {P : Program} {w : World} {K : PySem.W.Frag} {mg : Str → Option Value} {base : Heap}
theorem ok_i {f fK CC CM iM : Addr} {fd dK : FuncData} (F : Fun K "__init__" "BookRules.__init__" sI f fd) (KF : FKeep K mg fK dK) (OK : FnOk P w K mg base CX0 4 fK dK ["text"] (spKeep K)) (BM : BErr P K mg "BadSum" "BadSum.__init__" stSum ["text"] CM iM) (su : mg "super" = none) (sm : mg "sum" = none) (O : OBk K CC) : FnOk P w K mg base (CX P w) 5 f fd ["self", "keep"] (spI CC CM) := by
  refine F.okX scI (fun vs H Q E h => ?_) (fun cdv A outer s H vs Q E hr h => ?_)
  · obtain ⟨x, dx, v, rfl, _⟩ := h
    rfl
  · obtain ⟨x, dx, v, rfl, hv, hx, k⟩ := h
    refine ⟨_, (pss_cons (ps_set (i := 2) scI.nd rfl (.inl rfl) (pe_call OK hr rfl KF.g KF.u.kp KF.b .nil pass0 (pa_cons (pv 1) pa_nil)))
 (pss_cons (ps_if (pt_cmpR op_isN (pv 2) pe_non (nomark _)) (pss_one (ps_raise rfl (takes_of rfl rfl rfl rfl) (pmk_err BM.T BM.F (by decide) BM.g su hr (pa_cons (pv 1) pa_nil)))) pss_nil)
 (pss_cons (ps_fld (pv 0) (pv 1) rfl)
 (pss_cons (ps_fld (pv 0) (pe_callB (cr_sum rfl) (by rfl) sm (by decide +kernel) (pa_cons (pe_lc (own := [("sign", 3), ("term", 4)]) (g := gTup K 2 (gCons (gName 3) (gCons (gName 4) gNil))) rfl scI.nd (pi_tup (pv 2)) (blkOk_by (N := NIr) (sc := defScope sI) (by decide +kernel))
          (fun _ _ _ _ _ => pg_tup rfl (pgs_cons (pg_name (i := 3) scI.nd rfl (.inl rfl)) (pgs_cons (pg_name (i := 4) scI.nd rfl (.inl rfl)) pgs_nil))) (fun _ _ _ _ _ => pts_one (pt_cmpR op_eq (pv 4) pe_str (nomark _))) (fun _ _ _ _ _ => pv 3)) pa_nil)) rfl)
 (pss_one (ps_fld (pv 0) (pe_callB (cr_sum rfl) (by rfl) sm (by decide +kernel) (pa_cons (pe_lc (own := [("sign", 3), ("term", 4)]) (g := gTup K 2 (gCons (gName 3) (gCons (gName 4) gNil))) rfl scI.nd (pi_tup (pv 2)) (blkOk_by (N := NIr) (sc := defScope sI) (by decide +kernel))
          (fun _ _ _ _ _ => pg_tup rfl (pgs_cons (pg_name (i := 3) scI.nd rfl (.inl rfl)) (pgs_cons (pg_name (i := 4) scI.nd rfl (.inl rfl)) pgs_nil))) (fun _ _ _ _ _ => pts_one (pt_cmpR op_ne (pv 4) pe_str (nomark _))) (fun _ _ _ _ _ => pe_op op_mul (pv 3) (pv 4))) pa_nil)) rfl)))))), ?_⟩
    refine ⟨_, rfl, v, rfl, hv, fun u H1 s1 td => ?_⟩
    rcases k with ⟨kn, ke⟩ | ⟨z, ts, rfl, kz, kt, kl, k⟩
    · rw [kn] at td
      cases td
      refine ⟨_, rfl, rfl, _, rfl, ?_⟩
      exact iteT ⟨_, rfl, rfl, (fun z => by cases z), fun _ d hd => ke d _ (s1.trans (same_new hd)) ⟨_, upd_same⟩⟩
    have td : TD K H1 u (.tuple (ts.map tmD)) := by rw [← kz]; exact td
    cases td with
    | @tup ta xs _ hta tds =>
    refine ⟨_, rfl, rfl, _, rfl, iteF ?_⟩
    have lx : xs.length = ts.length := by rw [tds.len, List.length_map]
    have hx1 := s1 _ _ hx
    refine ⟨_, rfl, _, rfl, x, CC, dx, [], rfl, hx1, O.cl, O.no "keep" (by decide +kernel), by decide, ?_⟩
    have x2 : upd H1 x (.ins CC dx (putF "keep" (.str z) [])) x = some (.ins CC dx [("keep", .str z)]) := upd_same
    have b2 : ∀ c o, c ≠ x → H1 c = some o → upd H1 x (.ins CC dx (putF "keep" (.str z) [])) c = some o := fun c o n e => by rw [upd_ne n]; exact e
    have t2 : KeepT H1 (upd H1 x (.ins CC dx (putF "keep" (.str z) []))) := KeepT.ins hx1
    generalize upd H1 x (.ins CC dx (putF "keep" (.str z) [])) = G1 at *
    have hta1 := t2.seq hta
    have tds1 := TDs.keep t2 tds
    -- the first sum
    refine ⟨_, rfl, ta, rfl, ⟨xs, hta1⟩, fun D hD => lc_tup (K := K) (a := ta) (xs := xs) (fun i G => Same G1 G ∧ G D = some (.lst ((selA (ts.take i)).map V.int))) ⟨same_new hD, upd_same⟩ (fun i G _ ⟨s, _⟩ => Same.tup s hta1) ?_ ?_⟩
    · rintro i y G hi ⟨sG, hDG⟩
      obtain ⟨t, p, ht, rfl, hp⟩ := term_get tds1 hi
      have hti := take_snoc_ ht
      have hl := selA_len (ts.take i)
      have hl2 : (ts.take i).length ≤ i := List.length_take_le _ _
      have hi2 : i < xs.length := (List.getElem?_eq_some_iff.mp hi).1
      refine ⟨p, _, rfl, Same.tup sG hp, rfl, _, _, rfl, _, _, rfl, rfl, rfl, ?_⟩
      cases ha : t.2 with
      | none =>
        rw [ha] at hp
        refine ⟨_, rfl, rfl, _, rfl, ?_⟩
        refine iteY (show V.str sizeS = V.str "size" from rfl) ⟨_, rfl, _, hDG, (by rw [List.length_map, sizeLine_eq]; omega), fun c o e => ?_, ?_⟩
        · rw [upd_ne (fun y => by rw [y, hD] at e; cases e)]; exact sG _ _ e
        · rw [upd_same, hti, selA_snoc, ha, List.map_append]; rfl
      | some n =>
        refine ⟨_, rfl, rfl, _, rfl, ?_⟩
        refine iteN (show ¬ V.int (n : Int) = V.str "size" from fun y => nomatch y) ⟨sG, ?_⟩
        rw [hti, selA_snoc, ha]
        show G D = some (.lst ((selA (ts.take i) ++ []).map V.int))
        rw [List.append_nil]; exact hDG
    rintro G2 ⟨sG2, hD2⟩
    rw [lx, List.take_length] at hD2
    refine ⟨D, selA ts, rfl, SqL.of hD2, ?_⟩
    refine ⟨_, rfl, x, CC, dx, _, rfl, sG2 _ _ x2, O.cl, O.no "times" (by decide +kernel), (by show 1 < 1000; decide), ?_⟩
    have hx2 := sG2 _ _ x2
    have x3 : upd G2 x (.ins CC dx (putF "times" (.int (selA ts).sum) [("keep", .str z)])) x = some (.ins CC dx [("keep", .str z), ("times", .int (selA ts).sum)]) := upd_same
    have b3 : ∀ c o, c ≠ x → G2 c = some o → upd G2 x (.ins CC dx (putF "times" (.int (selA ts).sum) [("keep", .str z)])) c = some o := fun c o n e => by rw [upd_ne n]; exact e
    have t3 : KeepT G2 (upd G2 x (.ins CC dx (putF "times" (.int (selA ts).sum) [("keep", .str z)]))) := KeepT.ins hx2
    generalize upd G2 x (.ins CC dx (putF "times" (.int (selA ts).sum) [("keep", .str z)])) = G3 at *
    have hta3 := t3.seq (Same.tup sG2 hta1)
    have tds3 := TDs.keep t3 (TDs.keep (KeepT.of sG2) tds1)
    -- the second sum
    refine ⟨_, rfl, ta, rfl, ⟨xs, hta3⟩, fun D hD => lc_tup (K := K) (a := ta) (xs := xs) (fun i G => Same G3 G ∧ G D = some (.lst ((selB (ts.take i)).map V.int))) ⟨same_new hD, upd_same⟩ (fun i G _ ⟨s, _⟩ => Same.tup s hta3) ?_ ?_⟩
    · rintro i y G hi ⟨sG, hDG⟩
      obtain ⟨t, p, ht, rfl, hp⟩ := term_get tds3 hi
      have hti := take_snoc_ ht
      have hl := selB_len (ts.take i)
      have hl2 : (ts.take i).length ≤ i := List.length_take_le _ _
      have hi2 : i < xs.length := (List.getElem?_eq_some_iff.mp hi).1
      have tk := kt t (List.mem_of_getElem? ht)
      refine ⟨p, _, rfl, Same.tup sG hp, rfl, _, _, rfl, _, _, rfl, rfl, rfl, ?_⟩
      cases ha : t.2 with
      | none =>
        refine ⟨_, rfl, rfl, _, rfl, ?_⟩
        refine iteNS (show V.str sizeS = V.str "size" from rfl) ⟨sG, ?_⟩
        rw [hti, selB_snoc, ha]
        show G D = some (.lst ((selB (ts.take i) ++ []).map V.int))
        rw [List.append_nil]; exact hDG
      | some n =>
        refine ⟨_, rfl, rfl, _, rfl, ?_⟩
        refine iteNN (show ¬ V.int (n : Int) = V.str "size" from fun y => nomatch y) ⟨_, rfl, _, rfl, _, _, rfl, rfl, .inl (by rcases tk.sg with e | e <;> rw [e] <;> decide), _, hDG, (by rw [List.length_map, sizeLine_eq]; omega), fun c o e => ?_, ?_⟩
        · rw [upd_ne (fun y => by rw [y, hD] at e; cases e)]; exact sG _ _ e
        · rw [upd_same, hti, selB_snoc, ha, List.map_append]; rfl
    rintro G4 ⟨sG4, hD4⟩
    rw [lx, List.take_length] at hD4
    refine ⟨D, selB ts, rfl, SqL.of hD4, ?_⟩
    refine ⟨_, rfl, x, CC, dx, _, rfl, sG4 _ _ x3, O.cl, O.no "more" (by decide +kernel), (by show 2 < 1000; decide), ?_⟩
    exact k _ (fun c o n e => by
      rw [upd_ne n]
      exact sG4 _ _ (b3 c o n (sG2 _ _ (b2 c o n (s1 _ _ e))))) upd_same
theorem ok_eq {f CC : Addr} {fd : FuncData} (F : Fun K "__eq__" "BookRules.__eq__" sEqR f fd) (O : OBk K CC) (IF : InsF K CC) (gC : mg "BookRules" = some (.ref CC)) (isi : mg "isinstance" = none) : FnOk P w K mg base CX0 1 f fd ["self", "other"] (spEq CC) := by
  refine F.ok scEqR (fun vs H Q E h => ?_) (fun cdv A outer s H vs Q E hr h => ?_)
  · obtain ⟨x, v, z, t, m, rfl, _⟩ := h
    rfl
  · obtain ⟨x, v, z, t, m, rfl, ⟨dx, hx⟩, k⟩ := h
    refine ⟨_, (pss_cons (ps_if (pt_not (pt_val (pe_callB call_isi (by rfl) isi (by decide +kernel) (pa_cons (pv 1) (pa_cons (pe_glob rfl gC (v := .ref CC) rfl) pa_nil))))) (pss_one (ps_ret pe_bl)) pss_nil)
 (pss_one (ps_ret (pe_cmpR op_eq (pe_fld (pv 0) rfl) (pe_fld (pv 1) rfl) (nomark _))))), ?_⟩
    rcases k with ⟨y, z', t', m', rfl, ⟨dy, hy⟩, k⟩ | ⟨s, rfl, k⟩
    · refine ⟨_, rfl, .ref y, .ref CC, .ref CC, .ref CC, true, rfl, .own _, .base (.ins hy O.cl IF.gc IF.hn IF.tk IF.hm), IF.yes, _, rfl, iteF ?_⟩
      refine ⟨_, rfl, x, CC, dx, _, .str z, rfl, hx, O.cl, O.no "keep" (by decide +kernel), rfl, _, rfl, y, CC, dy, _, .str z', rfl, hy, O.cl, O.no "keep" (by decide +kernel), rfl, rfl, ?_⟩
      rw [dec_str]
      exact k
    · exact ⟨_, rfl, .str s, .ref CC, .type "str", .ref CC, false, rfl, .own _, .base (.str s), IF.str, _, rfl, iteT k⟩
end
end IdL
namespace L2
open PySem PySem.Spec PyProof.Rows
section
variable {X : Cx} {n : Nat} {C f : Addr} {fd : FuncData} {ps : List Str} {sp : Sp}
/-- len of an instance, by its own __len__ -/
theorem call_lenOwn (hs : PySem.W.findIn X.K (.ref C) "__len__" = some (some (.ref f))) (hf : PySem.W.isFn X.K (.ref f) = true) (F : FnOk X.prog X.w X.K X.mg X.base CX0 n f fd ps sp) (hb : Binds X.K fd ps []) (hr : Room (n + 1) X.A) :
    CallR X (.builtin "len") (fun xs H Q => ∃ a dx fs, xs = [.ref a] ∧ H a = some (.ins C dx fs) ∧ sp [.ref a] H (fun v H' => ∃ k : Nat, v = .int k ∧ (k : Int) < 2 ^ 63 ∧ Q (.int k) H') E0) := by
  intro pins s σ H xs us Q I r h
  obtain ⟨a, dx, fs, rfl, ha, q⟩ := h
  obtain ⟨u, rfl, r1⟩ := vals1 r
  cases (show u = Value.ref a from r1)
  obtain ⟨mA, J, _⟩ := ins_get I.hok ha
  obtain ⟨od, J, _⟩ := J.look
  obtain ⟨m, hF⟩ := I.fr
  refine PySem.W.len_K hF I.ok.mod.kin J hs hf ?_
  have r2 : Vals [V.ref a] [Value.ref a] := .cons rfl .nil
  have hl := F.len _ _ _ _ q
  refine wpAny_call (codeAny_mono (F.run X.A.in1 X.stack s H ⟨[.ref a], []⟩ [.ref a] [.ref a] _ E0 hr.in1 I.env0.in1 (by
    have := hb s [.ref a] I.kIn (by simpa using hl)
    simpa using this) r2 q) fun r s' hq => ?_)
  cases r with
  | error e => exact (show False from hq).elim
  | ok fl =>
    cases fl with
    | ret w =>
      obtain ⟨z, H', I', rz, k, rfl, hk, q⟩ := I.after hq
      obtain ⟨t, rfl⟩ := rz
      exact ⟨⟨by omega, by omega⟩, .int (k : Int), H', I'.tok _, ⟨_, rfl⟩, q⟩
    | next => exact False.elim hq
    | brk => exact False.elim hq
    | cont => exact False.elim hq
/-- what may be subscripted by a class's own __getitem__ -/
def IxO (X : Cx) (r : R2) : Prop :=
  ∀ (value slice : Expr) (pins : List (Addr × Obj)) (s : Shared) (σ : St) (H : Hp) (x y : V) (v u : Value) (Q : VK), Inv X pins σ H s → RelV x v → RelV y u → r x y H Q →
    subscripted slice true v u = runValue (.builtin "lifetime.subscript" ⟨[v, u], []⟩) → wpAny (model X.prog X.w) X.A (subscriptTail value slice v u) (EP X pins σ Q) X.xe s
def PlainIxO (b : Expr) : Prop := ∀ o i, subscripted b true o i = runValue (.builtin "lifetime.subscript" ⟨[o, i], []⟩)
theorem pe_ixO {a b : Expr} {ta tb : TE} {pos : Pos} {r : R2} (hr : IxO X r) (ha : PE X a ta) (hb : PE X b tb) (hs : PlainIxO b) : PE X (.Subscript a b pos) (tOp r ta tb) := by
  refine ⟨fun pins s σ H Q I h => ?_⟩
  exact Subscript_ (binT ha hb I h fun v u s2 x y H2 I2 rx ry q => hr a b pins s2 σ H2 x y v u Q I2 rx ry q (hs _ _))
/-- an item of an instance, by its own __getitem__ -/
theorem ix_own (hs : PySem.W.findIn X.K (.ref C) "__getitem__" = some (some (.ref f))) (hf : PySem.W.fnIn X.K f = true) (hfn : PySem.W.isFn X.K (.ref f) = true) (F : FnOk X.prog X.w X.K X.mg X.base CX0 n f fd ps sp) (hb : Binds X.K fd ps []) (hr : Room (n + 1) X.A) :
    IxO X (fun x y H Q => ∃ a dx fs, x = .ref a ∧ H a = some (.ins C dx fs) ∧ sp [x, y] H Q E0) := by
  intro value slice pins s σ H x y v u Q I rx ry h hsub
  obtain ⟨a, dx, fs, rfl, ha, q⟩ := h
  cases (show v = Value.ref a from rx)
  obtain ⟨mA, J, _⟩ := ins_get I.hok ha
  obtain ⟨od, J, _⟩ := J.look
  obtain ⟨m, hF⟩ := I.fr
  refine PySem.W.sub_K hF I.ok.mod.kin J hs hf hfn ?_ hsub
  have r2 : Vals [V.ref a, y] [Value.ref a, u] := .cons rfl (.cons ry .nil)
  have hl := F.len _ _ _ _ q
  refine wpAny_call (codeAny_mono (F.run X.A.in1 X.stack s H ⟨[.ref a, u], []⟩ [.ref a, u] [.ref a, y] _ E0 hr.in1 I.env0.in1 (by
    have := hb s [.ref a, u] I.kIn (by simpa using hl)
    simpa using this) r2 q) fun r s' hq => ?_)
  cases r with
  | error e => exact (show False from hq).elim
  | ok fl =>
    cases fl with
    | ret w =>
      obtain ⟨z, H', I', rz, q⟩ := I.after hq
      exact ⟨z, H', I', rz, q⟩
    | next => exact False.elim hq
    | brk => exact False.elim hq
    | cont => exact False.elim hq
end
end L2
namespace IdL
open PySem L2 TL
abbrev sPen : Stmt := top 98
abbrev sDraw : Stmt := top 99
/-! ### the pen: a dict of three -/
def penL (l : Addr) (t lf : Int) : List (Key × V) := [(.inr "cells", .ref l), (.inr "turn", .int t), (.inr "left", .int lf)]
section
variable {l : Addr} {t lf z : Int}
theorem pen_cells : valV (penL l t lf) (.inr "cells" : Key) = some (.ref l) := by kernel_rfl
theorem pen_turn : valV (penL l t lf) (.inr "turn" : Key) = some (.int t) := by kernel_rfl
theorem pen_left : valV (penL l t lf) (.inr "left" : Key) = some (.int lf) := by kernel_rfl
theorem put_turn : putK (penL l t lf) (.inr "turn" : Key) (.int z) = penL l z lf := by kernel_rfl
theorem put_left : putK (penL l t lf) (.inr "left" : Key) (.int z) = penL l t z := by kernel_rfl
theorem merge_pen : mergeK [] (penL l t lf) = penL l t lf := by kernel_rfl
end
/-- a pen with its cells at l -/
structure PenL (H : Hp) (b l : Addr) (n : Nat) : Prop where
  ex : ∃ (ns : List Int) (t lf : Int), H b = some (.dK (penL l t lf)) ∧ H l = some (.lst (ns.map V.int)) ∧ ns.length ≤ 63 ∧ 0 ≤ t ∧ t ≤ n ∧ 0 ≤ lf
theorem PenL.keep {H H' : Hp} {b l : Addr} {n : Nat} (h : PenL H b l n) (s : ∀ a o, (a = b ∨ a = l) → H a = some o → H' a = some o) : PenL H' b l n := by
  obtain ⟨ns, t, lf, h1, h2, r⟩ := h.ex
  exact ⟨ns, t, lf, s _ _ (.inl rfl) h1, s _ _ (.inr rfl) h2, r⟩
theorem PenL.same {H H' : Hp} {b l : Addr} {n : Nat} (h : PenL H b l n) (s : Same H H') : PenL H' b l n := h.keep fun a o _ e => s a o e
theorem PenL.more {H : Hp} {b l : Addr} {n m : Nat} (h : PenL H b l n) (s : n ≤ m) : PenL H b l m := by
  obtain ⟨ns, t, lf, h1, h2, h3, h4, h5, r⟩ := h.ex
  exact ⟨ns, t, lf, h1, h2, h3, h4, by omega, r⟩
theorem PenL.there {H : Hp} {b l : Addr} {n : Nat} (B : PenL H b l n) : H b ≠ none ∧ H l ≠ none := by
  obtain ⟨_, _, _, e, g, _⟩ := B.ex
  rw [e, g]
  exact ⟨(fun z => nomatch z), (fun z => nomatch z)⟩
/-! ### lists of numbers, compared -/
theorem ints_dp {K : PySem.W.Frag} {H : Hp} : ∀ ns : List Int, DpAll K H (ns.map V.int) (ns.map PyData.int)
  | [] => .nil
  | n :: ns => .cons (.int n) (ints_dp ns)
theorem eqv_ints : ∀ ms ns : List Int, PyData.eqvAll (ms.map PyData.int) (ns.map PyData.int) = decide (ms = ns)
  | [], [] => rfl
  | [], _ :: _ => rfl
  | _ :: _, [] => rfl
  | m :: ms, n :: ns => by
    show (PyData.eqv (.int m) (.int n) && PyData.eqvAll (ms.map PyData.int) (ns.map PyData.int)) = _
    rw [eqv_ints ms ns, show PyData.eqv (.int m) (.int n) = decide (m = n) from ?_]
    · by_cases h1 : m = n <;> by_cases h2 : ms = ns <;> simp [h1, h2]
    · by_cases h : m = n
      · subst h; rw [decide_eq_true rfl]; exact SeqAt.eqv_refl _ rfl
      · rw [decide_eq_false h]
        show (m == n) = false
        simp [h]
theorem ints_dep : ∀ ns : List Int, PyData.depthAll (ns.map PyData.int) ≤ 1
  | [] => by simp [PyData.depthAll]
  | n :: ns => by
    have := ints_dep ns
    simp only [List.map_cons, PyData.depthAll, PyData.depth]
    omega
theorem ints_lay : ∀ ns : List Int, PyData.canLayAll0 (ns.map PyData.int) = true
  | [] => rfl
  | n :: ns => by
    show (PyData.canLay0 (.int n) && PyData.canLayAll0 (ns.map PyData.int)) = true
    rw [ints_lay ns]; rfl
theorem ints_shaped (ns : List Int) : SeqAt.shaped (.list (ns.map PyData.int)) = true := by
  unfold SeqAt.shaped
  rw [Bool.and_eq_true]
  refine ⟨by show PyData.canLayAll0 _ = true; exact ints_lay ns, decide_eq_true ?_⟩
  have := ints_dep ns
  simp only [PyData.depth]
  omega
theorem eq_ints {K : PySem.W.Frag} {H : Hp} {p q : Addr} {ms ns : List Int} (hp : SqL K H p (ms.map V.int)) (hq : SqL K H q (ns.map V.int)) {Q : VK} (k : Q (.bl (decide (ms = ns))) H) : rEqD K (.ref p) (.ref q) H Q := by
  refine ⟨.list _, .list _, .lst hp (ints_dp ms), .lst hq (ints_dp ns), ints_shaped ms, ints_shaped ns, ?_⟩
  show Q (.bl (PyData.eqvAll (ms.map PyData.int) (ns.map PyData.int))) H
  rw [eqv_ints]
  exact k
theorem ne_ints {K : PySem.W.Frag} {H : Hp} {p q : Addr} {ms ns : List Int} (hp : SqL K H p (ms.map V.int)) (hq : SqL K H q (ns.map V.int)) {Q : VK} (k : Q (.bl (!decide (ms = ns))) H) : rNeD K (.ref p) (.ref q) H Q := by
  refine ⟨.list _, .list _, .lst hp (ints_dp ms), .lst hq (ints_dp ns), ints_shaped ms, ints_shaped ns, ?_⟩
  show Q (.bl (!PyData.eqvAll (ms.map PyData.int) (ns.map PyData.int))) H
  rw [eqv_ints]
  exact k
structure Glob (mg : Str → Option Value) : Prop where
  len : mg "len" = none
  int : mg "int" = none
  list : mg "list" = none
  abs : mg "abs" = none
/-! ### the promises -/
def spPen (K : PySem.W.Frag) : Sp := fun vs H Q _ => ∃ (a : Addr) (ns : List Int), vs = [.ref a] ∧ SqL K H a (ns.map V.int) ∧ ns.length ≤ 63 ∧
  ∀ (b l : Addr) (H' : Hp), H b = none → H l = none → Same H H' → PenL H' b l 0 → Q (.ref b) H'
/-- a drawn number below the limit -/
def spDraw : Sp := fun vs H Q _ => ∃ (b l : Addr) (n : Nat) (m : Int), vs = [.ref b, .int m] ∧ PenL H b l n ∧ n < 1000000000 ∧ 1 ≤ m ∧ m ≤ 1000000000000000 ∧
  ∀ (r : Int) (H' : Hp), 0 ≤ r → r < m → SameBut b H H' → PenL H' b l (n + 1) → Q (.int r) H'
section
variable {P : Program} {w : World} {K : PySem.W.Frag} {mg : Str → Option Value} {base : Heap}
theorem scB : FnScope ["_law_script"] ["_law_script"] (defScope sPen) := ⟨rfl, rfl, rfl, by decide +kernel, rfl, by decide +kernel, by decide +kernel⟩
theorem ok_pen {f : Addr} {fd : FuncData} (F : Fun K "_law_begun_pen" "_law_begun_pen" sPen f fd) (T : Glob mg) : FnOk P w K mg base CX0 1 f fd ["_law_script"] (spPen K) := by
  refine F.ok scB (fun vs H Q E h => ?_) (fun cdv A outer s H vs Q E hr h => ?_)
  · obtain ⟨a, ns, rfl, _⟩ := h
    rfl
  · obtain ⟨a, ns, rfl, hS, hlen, k⟩ := h
    refine ⟨_, pss_one (ps_ret (pe_disp (pps_cons pe_str (pe_callTy call_list_of (by rfl) T.list (by decide +kernel) (pa_cons (pe_slice (r := rSlL K) sl_list (pv 0) po_none (po_some pe_int)) pa_nil)) (pps_cons pe_str pe_int (pps_cons pe_str pe_int pps_nil)))
        (by rfl) (by rfl) (fun z => by cases z) (by decide))), ?_⟩
    intro p hp
    have e63 : cutV (ns.map V.int) none (some 63) = (ns.take 63).map V.int := by
      rw [List.take_of_length_le hlen]
      exact (cut_to _ 63).trans (List.take_of_length_le (by rw [List.length_map]; exact hlen))
    refine ⟨_, rfl, _, rfl, a, _, rfl, (same_new hp).seq hS, fun q hq => ?_⟩
    rw [e63, List.take_of_length_le hlen]
    have pq : p ≠ q := fun z => by rw [z, upd_same] at hq; cases hq
    have Hq : H q = none := by rw [← hq]; exact (upd_ne (Ne.symm pq)).symm
    refine ⟨q, _, rfl, .inl (SqL.of upd_same), fun l hl => ?_⟩
    have lq : l ≠ q := fun z => by rw [z, upd_same] at hl; cases hl
    have hl' : upd H p (.dK []) l = none := by rw [← hl]; exact (upd_ne lq).symm
    have lp : p ≠ l := fun z => by rw [z, upd_same] at hl'; cases hl'
    have Hl : H l = none := by rw [← hl']; exact (upd_ne (Ne.symm lp)).symm
    refine ⟨by rw [upd_ne lp, upd_ne pq, upd_same], penL l 0 0, rfl, (by show 3 ≤ 15; decide), ?_⟩
    rw [merge_pen]
    refine k p l _ hp Hl (fun c o e => ?_) ⟨ns, 0, 0, upd_same, by rw [upd_ne (Ne.symm lp), upd_same], hlen, by decide, by decide, by decide⟩
    rw [upd_ne (ne_of_none e hp), upd_ne (ne_of_none e Hl), upd_ne (ne_of_none e Hq), upd_ne (ne_of_none e hp)]
    exact e
theorem scD : FnScope ["_law_pen", "_law_span", "_law_digit", "_law_turn", "_law_cell", "_law_mixed"] ["_law_pen", "_law_span"] (defScope sDraw) := ⟨rfl, rfl, rfl, by decide +kernel, rfl, by decide +kernel, by decide +kernel⟩
section
variable {H : Hp} {b l : Addr} {t lf : Int}
theorem get_cells (hb : H b = some (.dK (penL l t lf))) : DGet H b (.str "cells") (some (.ref l)) := by have q := DGet.k (k := (Sum.inr "cells" : Key)) hb; rw [pen_cells] at q; exact q
theorem get_turn (hb : H b = some (.dK (penL l t lf))) : DGet H b (.str "turn") (some (.int t)) := by have q := DGet.k (k := (Sum.inr "turn" : Key)) hb; rw [pen_turn] at q; exact q
theorem get_left (hb : H b = some (.dK (penL l t lf))) : DGet H b (.str "left") (some (.int lf)) := by have q := DGet.k (k := (Sum.inr "left" : Key)) hb; rw [pen_left] at q; exact q
end
theorem small15 {l : Addr} {t lf : Int} : (penL l t lf).length < sizeLine := by rw [sizeLine_eq]; exact (by decide : 3 < 16777216)
theorem upd_upd {H : Hp} {b : Addr} {o o' : HO} : upd (upd H b o) b o' = upd H b o' := by
  funext c
  by_cases h : c = b
  · rw [h, upd_same, upd_same]
  · rw [upd_ne h, upd_ne h, upd_ne h]
theorem ok_draw {f : Addr} {fd : FuncData} (F : Fun K "_law_draw" "_law_draw" sDraw f fd) (T : Glob mg) : FnOk P w K mg base CX0 1 f fd ["_law_pen", "_law_span"] spDraw := by
  refine F.ok scD (fun vs H Q E h => ?_) (fun cdv A outer s H vs Q E hr h => ?_)
  · obtain ⟨b, l, n, m, rfl, _⟩ := h
    rfl
  · obtain ⟨b, l, n, m, rfl, B, hn, hm1, hm2, k⟩ := h
    have hu := hu_of hr
    obtain ⟨ns, t, lf, hb, hl, hlen, ht0, ht1, hlf⟩ := B.ex
    have nbl : b ≠ l := ne_of hb hl (by intro z; cases z)
    refine ⟨_, (pss_cons (ps_if (pt_cmpR op_gt (pe_dget hu (pv 0) pe_str (fun _ _ => rfl)) pe_int (nomark _)) (pss_cons (ps_set (i := 2) scD.nd rfl (.inl rfl) (pe_op op_modN (pe_callTy call_int1 (by rfl) T.int (by decide +kernel) (pa_cons (pe_dget hu (pv 0) pe_str (fun _ _ => rfl)) pa_nil)) (pv 1)))
 (pss_cons (ps_dput hu (pv 0) pe_str (pe_op op_fdivW (pe_dget hu (pv 0) pe_str (fun _ _ => rfl)) (pv 1)) rfl)
 (pss_one (ps_ret (pv 2))))) pss_nil)
 (pss_cons (ps_set (i := 3) scD.nd rfl (.inl rfl) (pe_dget hu (pv 0) pe_str (fun _ _ => rfl)))
 (pss_cons (ps_dput hu (pv 0) pe_str (pe_op op_add (pv 3) pe_int) rfl)
 (pss_cons (ps_set (i := 4) scD.nd rfl (.inl rfl) (pe_op op_add (pe_op op_mul pe_int (pv 3)) pe_int))
 (pss_join (ps_if (pt_cmpR (op_neD hr.units) (pe_dget hu (pv 0) pe_str (fun _ _ => rfl)) (pe_lst pa_nil) (nomark _))
          (pss_one (ps_set (i := 4) scD.nd rfl (.inl rfl) (pe_ix ix_list (pe_dget hu (pv 0) pe_str (fun _ _ => rfl)) (pe_op op_mod (pe_callTy call_int1 (by rfl) T.int (by decide +kernel) (pa_cons (pv 3) pa_nil)) (pe_callB call_len (by rfl) T.len PySem.boot_len (pa_cons (pe_dget hu (pv 0) pe_str (fun _ _ => rfl)) pa_nil))) (fun _ _ => rfl)))) pss_nil)
 (pss_cons (ps_if (PW.pt (pw_and (pt_cmpR op_lt (pv 3) (pe_callB call_len (by rfl) T.len PySem.boot_len (pa_cons (pe_dget hu (pv 0) pe_str (fun _ _ => rfl)) pa_nil)) (nomark _)) (pw_and1 (pt_cmpR op_ge (pe_callB call_abs (by rfl) T.abs (by decide +kernel) (pa_cons (pv 4) pa_nil)) (pe_op op_pow pe_int pe_int) (nomark _))))) (pss_cons (ps_dput hu (pv 0) pe_str (pe_op op_fdivW (pe_op op_sub (pe_callB call_abs (by rfl) T.abs (by decide +kernel) (pa_cons (pv 4) pa_nil)) (pe_op op_pow pe_int pe_int)) (pv 1)) rfl)
 (pss_one (ps_ret (pe_op op_modN (pe_callTy call_int1 (by rfl) T.int (by decide +kernel) (pa_cons (pe_op op_sub (pe_callB call_abs (by rfl) T.abs (by decide +kernel) (pa_cons (pv 4) pa_nil)) (pe_op op_pow pe_int pe_int)) pa_nil)) (pv 1))))) pss_nil)
 (pss_cons (ps_set (i := 5) scD.nd rfl (.inl rfl) (pe_op op_mul (pe_op op_mod (pe_callTy call_int1 (by rfl) T.int (by decide +kernel) (pa_cons (pv 4) pa_nil)) pe_int) pe_int))
 (pss_cons (ps_set (i := 5) scD.nd rfl (.inl rfl) (pe_op op_mod (pe_callTy call_int1 (by rfl) T.int (by decide +kernel) (pa_cons (pe_op op_add (pe_op op_add (pv 5) (pe_op op_mul (pv 3) (pe_op op_add (pe_op op_mul (pv 3) pe_int) pe_int))) pe_int) pa_nil)) pe_int))
 (pss_cons (ps_set (i := 5) scD.nd rfl (.inl rfl) (pe_op op_mod (pe_callTy call_int1 (by rfl) T.int (by decide +kernel) (pa_cons (pe_op op_mul (pv 5) (pe_op op_add (pv 5) pe_int)) pa_nil)) pe_int))
 (pss_cons (ps_set (i := 5) scD.nd rfl (.inl rfl) (pe_op op_mod (pe_callTy call_int1 (by rfl) T.int (by decide +kernel) (pa_cons (pe_op op_add (pe_op op_add (pe_op op_mul (pv 5) (pv 5)) (pe_op op_mul pe_int (pv 5))) (pe_op op_mul pe_int (pv 3))) pa_nil)) pe_int))
 (pss_one (ps_ret (pe_op op_modN (pe_callTy call_int1 (by rfl) T.int (by decide +kernel) (pa_cons (pe_op op_fdiv (pe_op op_mod (pe_callTy call_int1 (by rfl) T.int (by decide +kernel) (pa_cons (pe_op op_mul (pv 5) (pe_op op_add (pv 5) pe_int)) pa_nil)) pe_int) pe_int) pa_nil)) (pv 1)))))))))))))), ?_⟩
    have fm : ∀ x : Int, 0 ≤ x → x.fmod m = x % m := fun x hx => Int.fmod_eq_emod_of_nonneg x (by omega)
    refine ⟨_, rfl, b, _, rfl, get_left hb, _, _, rfl, rfl, _, rfl, ?_⟩
    refine ite2 (fun g => ?_) (fun g => ?_)
    · refine ⟨_, rfl, b, _, rfl, get_left hb, .inl ⟨_, rfl, _, rfl, _, _, rfl, rfl, (by show m ≠ 0; omega), ?_⟩⟩
      refine ⟨_, rfl, b, _, rfl, get_left hb, _, rfl, _, _, rfl, rfl, wide_div (b := 60) (by omega) (by omega) (by decide) (by decide), _, rfl, b, _, rfl, DPut.k (k := (Sum.inr "left" : Key)) hb small15, ?_⟩
      rw [put_left]
      refine ⟨_, rfl, ?_⟩
      show Q (.int (lf.fmod m)) _
      rw [fm lf hlf]
      refine k _ _ (Int.emod_nonneg _ (by omega)) (Int.emod_lt_of_pos _ (by omega)) (fun x o na e => ?_) ⟨ns, t, lf / m, upd_same, ?_, hlen, ht0, by omega, Int.ediv_nonneg hlf (by omega)⟩
      · rw [upd_ne na]
        exact e
      · rw [upd_ne nbl.symm]
        exact hl
    refine ⟨_, rfl, b, _, rfl, get_turn hb, ?_⟩
    refine ⟨_, rfl, _, _, rfl, rfl, _, rfl, b, _, rfl, DPut.k (k := (Sum.inr "turn" : Key)) hb small15, ?_⟩
    rw [put_turn]
    have hb1 : upd H b (.dK (penL l (t + 1) lf)) b = some (.dK (penL l (t + 1) lf)) := upd_same
    have s1 : SameBut b H (upd H b (.dK (penL l (t + 1) lf))) := fun x o na e => by rw [upd_ne na]; exact e
    have up1 : ∀ o, upd (upd H b (.dK (penL l (t + 1) lf))) b o = upd H b o := fun o => upd_upd
    generalize upd H b (.dK (penL l (t + 1) lf)) = H1 at *
    have hl1 : H1 l = some (.lst (ns.map V.int)) := s1 l _ nbl.symm hl
    refine ⟨_, rfl, _, _, rfl, rfl, .inl ⟨by decide, by decide⟩, _, _, rfl, rfl, ?_⟩
    refine ⟨fun τ G => ∃ c : Int, τ = [some (.ref b), some (.int m), none, some (.int t), some (.int c), none] ∧ Same H1 G, ?_, ?_⟩
    · refine ⟨_, rfl, b, _, rfl, get_cells hb1, Nat.zero_le _, fun q hq => ?_⟩
      have s2 : Same H1 _ := same_new (o := .lst (([] : List Int).map V.int)) hq
      have q2 : upd H1 q (.lst (([] : List Int).map V.int)) q = some (.lst (([] : List Int).map V.int)) := upd_same
      show rNeD _ _ _ (upd H1 q (.lst (([] : List Int).map V.int))) _
      generalize upd H1 q (.lst (([] : List Int).map V.int)) = H2 at *
      refine ne_ints (SqL.of (s2 _ _ hl1)) (SqL.of q2) ⟨_, rfl, ?_⟩
      by_cases hn0 : ns = []
      · exact iteNS hn0 ⟨_, rfl, s2⟩
      · refine iteNN hn0 ?_
        have lp : 0 < ns.length := List.length_pos_iff.mpr hn0
        refine ⟨_, rfl, b, _, rfl, get_cells (s2 _ _ hb1), _, rfl, .inl ⟨_, rfl, _, rfl, b, _, rfl, get_cells (s2 _ _ hb1), _, ns.length, rfl, .inl ⟨_, SqL.of (s2 _ _ hl1), (by simp)⟩, _, _, rfl, rfl, (by show (0 : Int) < (ns.length : Int); omega), ?_⟩⟩
        have r0 := Int.emod_nonneg t (show (ns.length : Int) ≠ 0 by omega)
        have r1 := Int.emod_lt_of_pos t (show (0 : Int) < (ns.length : Int) by omega)
        obtain ⟨a, ea⟩ : ∃ a : Nat, t % (ns.length : Int) = a := ⟨(t % (ns.length : Int)).toNat, by omega⟩
        have ha : a < ns.length := by omega
        obtain ⟨z, hz⟩ : ∃ z, ns[a]? = some z := ⟨ns[a], List.getElem?_eq_getElem ha⟩
        refine ⟨l, _, _, .int z, rfl, rfl, SqL.of (s2 _ _ hl1), (by rw [ea]; exact atI_nat (by rw [List.getElem?_map, hz]; rfl)), _, rfl, s2⟩
    rintro τ G ⟨c, rfl, sG⟩
    have hbG := sG _ _ hb1
    have hlG := sG _ _ hl1
    have sbG : SameBut b H G := fun x o na e => sG _ _ (s1 x o na e)
    have fin : ∀ x : Int, 0 ≤ x → Q (.int (x.fmod m)) G := fun x hx => by
      rw [fm x hx]
      exact k _ _ (Int.emod_nonneg _ (by omega)) (Int.emod_lt_of_pos _ (by omega)) sbG ⟨ns, t + 1, lf, hbG, hlG, hlen, by omega, by omega, hlf⟩
    have rest : ∀ (D : Prop), D → D := fun _ d => d
    have h10 : (10 : Int) ^ (18 : Int).toNat = 1000000000000000000 := by decide
    refine ⟨_, rfl, _, rfl, b, _, rfl, get_cells hbG, _, ns.length, rfl, .inl ⟨_, SqL.of hlG, (by simp)⟩, _, _, rfl, rfl, _, rfl, ?_⟩
    have tail : ∀ Z : Prop, Z → Z := fun _ z => z
    refine ite_k ?_ (fun g0 no => ?_)
    · refine ⟨_, rfl, .inl ⟨_, rfl, _, _, rfl, rfl, (by show (0 : Int) < 4294967087; decide), ?_⟩⟩
      have c0 := Int.emod_nonneg c (show (4294967087 : Int) ≠ 0 by decide)
      have c1 := Int.emod_lt_of_pos c (show (0 : Int) < 4294967087 by decide)
      generalize c % 4294967087 = c2 at *
      refine ⟨_, _, rfl, rfl, .inl ⟨by omega, by omega⟩, ?_⟩
      refine ⟨_, rfl, _, rfl, _, rfl, _, _, rfl, rfl, .inr ⟨by decide, by decide⟩, _, _, rfl, rfl, _, _, rfl, rfl, .inl ⟨by omega, by omega⟩, _, _, rfl, rfl, _, _, rfl, rfl, .inl ⟨_, rfl, _, _, rfl, rfl, (by show (0 : Int) < 4294967029; decide), ?_⟩⟩
      generalize hx : (c2 * 51407 + t * (t * 31013 + 12043) + 57) = x0
      have x1 := Int.emod_nonneg x0 (show (4294967029 : Int) ≠ 0 by decide)
      have x2 := Int.emod_lt_of_pos x0 (show (0 : Int) < 4294967029 by decide)
      generalize x0 % 4294967029 = y at *
      refine ⟨_, rfl, _, rfl, _, _, rfl, rfl, _, _, rfl, rfl, .inl ⟨by omega, by omega⟩, .inl ⟨_, rfl, _, _, rfl, rfl, (by show (0 : Int) < 4294966997; decide), ?_⟩⟩
      generalize hx : (y * (y + 81001)) = x0
      have x1 := Int.emod_nonneg x0 (show (4294966997 : Int) ≠ 0 by decide)
      have x2 := Int.emod_lt_of_pos x0 (show (0 : Int) < 4294966997 by decide)
      generalize x0 % 4294966997 = y at *
      refine ⟨_, rfl, _, rfl, _, _, rfl, rfl, .inl ⟨by omega, by omega⟩, _, rfl, _, _, rfl, rfl, .inl ⟨by decide, by decide⟩, _, _, rfl, rfl, _, rfl, _, _, rfl, rfl, .inl ⟨by decide, by decide⟩, _, _, rfl, rfl, .inl ⟨_, rfl, _, _, rfl, rfl, (by show (0 : Int) < 4294966981; decide), ?_⟩⟩
      generalize hx : (y * y + 27191 * y + 23 * t) = x0
      have x1 := Int.emod_nonneg x0 (show (4294966981 : Int) ≠ 0 by decide)
      have x2 := Int.emod_lt_of_pos x0 (show (0 : Int) < 4294966981 by decide)
      generalize x0 % 4294966981 = y at *
      refine ⟨_, rfl, _, rfl, _, _, rfl, rfl, _, _, rfl, rfl, .inl ⟨by omega, by omega⟩, .inl ⟨_, rfl, _, _, rfl, rfl, (by show (0 : Int) < 4294966943; decide), ?_⟩⟩
      generalize hx : (y * (y + 60217)) = x0
      have x1 := Int.emod_nonneg x0 (show (4294966943 : Int) ≠ 0 by decide)
      generalize x0 % 4294966943 = y at *
      exact ⟨_, _, rfl, rfl, ⟨by decide, by decide⟩, .inl ⟨_, rfl, _, rfl, _, _, rfl, rfl, (by show m ≠ 0; omega), fin _ (Int.ediv_nonneg (Int.emod_nonneg _ (by decide)) (by decide))⟩⟩
    · refine ⟨_, rfl, _, rfl, _, _, rfl, rfl, ⟨by decide, by decide, by decide⟩, _, _, rfl, rfl, _, rfl, ?_⟩
      refine ite_k no (fun g1 no => ?_)
      have ab0 : (1000000000000000000 : Int) ≤ (if c < 0 then -c else c) := by
        have := of_decide_eq_true g1
        rw [h10] at this
        exact this
      refine ⟨_, rfl, _, rfl, _, _, rfl, rfl, ⟨by decide, by decide, by decide⟩, _, _, rfl, rfl, _, rfl, _, _, rfl, rfl, wide_div (b := 60) (by omega) (by omega) (by decide) (by decide), _, rfl, b, _, rfl, DPut.k (k := (Sum.inr "left" : Key)) hbG small15, ?_⟩
      rw [put_left, h10]
      refine ⟨_, rfl, _, rfl, _, _, rfl, rfl, ⟨by decide, by decide, by decide⟩, _, _, rfl, rfl, .inl ⟨_, rfl, _, rfl, _, _, rfl, rfl, (by show m ≠ 0; omega), ?_⟩⟩
      rw [h10]
      generalize (if c < 0 then -c else c) = ab at *
      show Q (.int ((ab - 1000000000000000000).fmod m)) _
      rw [fm _ (by omega)]
      refine k _ _ (Int.emod_nonneg _ (by omega)) (Int.emod_lt_of_pos _ (by omega)) (fun x o na e => ?_) ⟨ns, t + 1, _, upd_same, ?_, hlen, by omega, by omega, Int.ediv_nonneg (show 0 ≤ ab - 1000000000000000000 by omega) (by omega)⟩
      · rw [upd_ne na]
        exact sbG x o na e
      · rw [upd_ne nbl.symm]
        exact hlG
end
end IdL
namespace L2
open PySem PySem.Spec PyProof.Rows
/-! ### repr of a truth value, a text many times, == and != by a class's own == -/
section
variable {X : Cx}
theorem call_repr_bl : CallR X (.builtin "repr") (fun xs H Q => ∃ b : Bool, xs = [.bl b] ∧ Q (.str (if b then "True" else "False")) H) := by
  intro pins s σ H xs us Q I r h
  obtain ⟨b, rfl, q⟩ := h
  obtain ⟨u, rfl, r1⟩ := vals1 r
  cases r1
  exact PySem.P.repr_of_bool ⟨.str _, H, I.tok _, ⟨_, rfl⟩, q⟩
def manyS (z : Str) (n : Nat) : Str := ⟨(List.replicate n z.cps).foldl (· ++ ·) #[]⟩
def rRepS : R2 := fun x y H Q => ∃ (z : Str) (n : Nat), x = .str z ∧ y = .int n ∧ 2 ≤ n ∧ n ≤ 1000 ∧ 0 < z.length ∧ z.length ≤ 1000 ∧ (manyS z n).length ≤ sizeLine ∧ Q (.str (manyS z n)) H
theorem op_repS : OpR X (binaryOp .Mult) rRepS := by
  intro pins s σ H x y v u Q I rx ry h
  obtain ⟨z, n, rfl, rfl, n2, n1, z0, z1, hl, q⟩ := h
  obtain ⟨t, rfl⟩ := (show ∃ t, v = Value.str z t from rx)
  obtain ⟨t', rfl⟩ := (show ∃ t, u = Value.int n t from ry)
  have zz : ¬ (n : Int) < 1 := by omega
  have zb : ((n : Int) == 1 || z.length == 0) = false := by
    rw [Bool.or_eq_false_iff]
    exact ⟨beq_eq_false_iff_ne.mpr (by omega), beq_eq_false_iff_ne.mpr (by omega)⟩
  refine PySem.P.mul_str ?_ (fun _ _ => ?_) (fun _ _ => ?_) ?_
  · rw [decide_eq_false (by omega), decide_eq_false (by omega)]; rfl
  · have h1 : (z.length : Int) ≤ (2 ^ 63 - 1) / 1000 := by omega
    have h2 : (2 ^ 63 - 1 : Int) / 1000 ≤ (2 ^ 63 - 1) / n := by
      have a1 : ((2 ^ 63 - 1 : Int) / 1000) * n ≤ 2 ^ 63 - 1 := by
        have : ((2 ^ 63 - 1 : Int) / 1000) * n ≤ ((2 ^ 63 - 1 : Int) / 1000) * 1000 := Int.mul_le_mul_of_nonneg_left (by omega) (by decide)
        have h3 : ((2 ^ 63 - 1 : Int) / 1000) * 1000 ≤ 2 ^ 63 - 1 := by decide
        omega
      exact Int.le_ediv_of_mul_le (by omega) a1
    omega
  · unfold PySem.Builtin.Str.tooLong
    refine decide_eq_false ?_
    have : z.length * n ≤ 1000 * 1000 := Nat.mul_le_mul z1 n1
    rw [Int.toNat_natCast]
    rw [sizeLine_eq]
    omega
  · rw [if_neg zz, if_neg (by rw [zb]; exact Bool.false_ne_true)]
    rw [Int.toNat_natCast]
    exact ⟨hl, .str _, H, I.tok _, ⟨_, rfl⟩, q⟩
end
section
variable {X : Cx} {CX : CXT} {n : Nat} {C f : Addr} {fd : FuncData} {ps : List Str} {sp : Sp}
/-- two instances of the class at C, or one and a text -/
def rOwnE (C : Addr) (sp : Sp) (E : XK) : R2 := fun x y H Q => ∃ a dx fs, x = .ref a ∧ H a = some (.ins C dx fs) ∧ ((∃ b dy gs, y = .ref b ∧ H b = some (.ins C dy gs)) ∨ ∃ s, y = .str s) ∧ sp [x, y] H Q E
theorem run_own {pins : List (Addr × Obj)} {s : Shared} {σ : St} {H : Hp} {x y : V} {u v : Value} {Q : VK} {E : XK} (F : FnOk X.prog X.w X.K X.mg X.base CX n f fd ps sp) (hb : Binds X.K fd ps []) (hr : Room n X.A) (hx : Passes CX X E) (I : Inv X pins σ H s) (rx : RelV x u) (ry : RelV y v) (q : sp [x, y] H Q E) :
    wpAny (model X.prog X.w) X.A (call (.ref f) [u, v]) (fun r s' => ∃ z H', RelV z r ∧ Inv X pins σ H' s' ∧ Q z H') X.xe s := by
  have r2 : Vals [x, y] [u, v] := .cons rx (.cons ry .nil)
  have hl := F.len _ _ _ _ q
  refine wpAny_call (codeAny_mono (F.run X.A X.stack s H ⟨[u, v], []⟩ [u, v] [x, y] _ E hr I.env0 (by
    have := hb s [u, v] I.kIn (by simpa using hl)
    simpa using this) r2 q) fun r s' hq => ?_)
  cases r with
  | error e => exact hx pins σ H s e s' I hq
  | ok fl =>
    cases fl with
    | ret w =>
      obtain ⟨z, H', I', rz, q⟩ := I.after hq
      exact ⟨z, H', rz, I', q⟩
    | next => exact False.elim hq
    | brk => exact False.elim hq
    | cont => exact False.elim hq
theorem op_ownEq {E : XK} (hs : PySem.W.findIn X.K (.ref C) "__eq__" = some (some (.ref f))) (hf : PySem.W.isFn X.K (.ref f) = true) (hn : PySem.W.subIn X.K (.type "str") (.ref C) = some false) (F : FnOk X.prog X.w X.K X.mg X.base CX n f fd ps sp) (hb : Binds X.K fd ps []) (hr : Room n X.A) (hx : Passes CX X E) :
    OpR X (compareOp .Eq) (rOwnE C sp E) := by
  intro pins s σ H x y v u Q I rx ry h
  obtain ⟨a, dx, fs, rfl, ha, hy, q⟩ := h
  cases (show v = Value.ref a from rx)
  obtain ⟨mA, J, _⟩ := ins_get I.hok ha
  obtain ⟨od, J, _⟩ := J.look
  obtain ⟨m, hF⟩ := I.fr
  have go := run_own F hb hr hx I (x := .ref a) rfl ry q
  show wpAny (model X.prog X.w) X.A (richCompare .Eq (.ref a) u) (EP X pins σ Q) X.xe s
  have fin : wpAny (model X.prog X.w) X.A (call (.ref f) [.ref a, u]) (PySem.W.CmpBack (EP X pins σ Q)) X.xe s :=
    wpAny_mono go (fun r s' ⟨z, H', rz, I', q⟩ => SlX.cmpback rz ⟨z, H', I', rz, q⟩) fun _ _ h => h
  rcases hy with ⟨b, dy, gs, rfl, hb'⟩ | ⟨t, rfl⟩
  · cases (show u = Value.ref b from ry)
    obtain ⟨mB, J', _⟩ := ins_get I.hok hb'
    obtain ⟨od', J', _⟩ := J'.look
    exact PySem.W.cmp_K (op := .Eq) (tb := .ref C) hr.units0 hF I.ok.mod.kin J J'.type (by simp [PySem.W.notFirst]) hs hf fin
  · obtain ⟨tk, rfl⟩ := (show ∃ tk, u = Value.str t tk from ry)
    exact PySem.W.cmp_K (op := .Eq) (tb := .type "str") hr.units0 hF I.ok.mod.kin J (PySem.W.Looks.of_pure rfl) (by unfold PySem.W.notFirst; rw [hn]; simp) hs hf fin
/-- object.__ne__, by the own == -/
theorem objNe_own {prog : Program} {w : World} {A : Around} {E : Value → Shared → Prop} {s : Shared} {K : PySem.W.Frag} {x C f : Addr} {ox : Obj} {od : Option Obj} {b : Value} {Q : Fin → Shared → Prop} (hu : A.units < cLine) (X : K.In s.heap) (I : PySem.W.InstAt s.heap x ox C od)
    (hs : PySem.W.findIn K (.ref C) "__eq__" = some (some (.ref f))) (hf : PySem.W.isFn K (.ref f) = true)
    (hcall : wpAny (model prog w) A (call (.ref f) [.ref x, b]) (fun v s' => ∃ c, v = .bool c ∧ Q (.done (.ret (.bool (!c)))) s') E s) :
    wpAny (model prog w) A (Builtin.«object.__ne__» ⟨[.ref x, b], []⟩) Q E s := by
  unfold Builtin.«object.__ne__»
  repeat (first
    | with_reducible refine wpAny_cRoomFor hu ?_
    | (refine wpAny_bind (m := callSpecialIfBound? (.ref x) (Str.ofString "__eq__") [b])
        (PySem.W.ifBound_K X I hs hf (wpAny_mono hcall (fun r s' hr => by
          obtain ⟨c, rfl, hq⟩ := hr
          repeat (first | exact hq | exact wpAny_pure hq | exact wpAny_truthy_bool hq | (refine wpAny_bind (m := truthy (.bool _)) (wpAny_truthy_bool ?_)) | wp_step)) fun _ _ e => e)))
    | wp_step)
theorem ifBound_objNe {M : Model} {A : Around} {E : Value → Shared → Prop} {s : Shared} {K : PySem.W.Frag} {x C : Addr} {ox : Obj} {od : Option Obj} {args : List Value} {Q : Option Value → Shared → Prop} (X : K.In s.heap) (I : PySem.W.InstAt s.heap x ox C od) (hs : PySem.W.findIn K (.ref C) "__ne__" = some (some (.builtin "object.__ne__")))
    (h : wpAny M A (call (.builtin "object.__ne__") (.ref x :: args)) (fun v => Q (some v)) E s) : wpAny M A (callSpecialIfBound? (.ref x) "__ne__" args) Q E s := by
  simp only [callSpecialIfBound?, bindSpecialIfBound?]
  refine wpAny_holding (wpAny_bind (wpAny_bind (wpAny_bind (I.type.here ((PySem.W.looks_findIn X hs).here ?_)))))
  refine wpAny_bind (wpAny_askSetting (wpAny_ite ?_))
  have fin : wpAny M A (call (.builtin "object.__ne__") ([.ref x] ++ args) >>= fun v => pure (some v)) Q E s := wpAny_bind (wpAny_mono h (fun v s' h' => wpAny_pure h') fun _ _ h' => h')
  split
  · exact wpAny_bind (wpAny_of_eq (F.cmp_object.ne.bind _) (wpAny_pure (by exact fin)))
  · exact wpAny_tryCatch (wpAny_bind (wpAny_of_eq (F.cmp_object.ne.bind _) (wpAny_pure (by exact fin))))
def rOwnNe (C : Addr) (sp : Sp) (E : XK) : R2 := fun x y H Q => ∃ a dx fs b dy gs, x = .ref a ∧ y = .ref b ∧ H a = some (.ins C dx fs) ∧ H b = some (.ins C dy gs) ∧ sp [x, y] H (fun v H' => ∃ c : Bool, v = .bl c ∧ Q (.bl (!c)) H') E
theorem op_ownNe {E : XK} (hs : PySem.W.findIn X.K (.ref C) "__eq__" = some (some (.ref f))) (hf : PySem.W.isFn X.K (.ref f) = true) (hne : PySem.W.findIn X.K (.ref C) "__ne__" = some (some (.builtin "object.__ne__"))) (hm : PySem.W.mroIn X.K C (.type "object") = some true)
    (F : FnOk X.prog X.w X.K X.mg X.base CX n f fd ps sp) (hb : Binds X.K fd ps []) (hr : Room (n + 1) X.A) (hx : ∀ (H : Hp) (s : Shared) (e : Value) (s' : Shared), CX X.stack H s E e s' → False) : OpR X (compareOp .NotEq) (rOwnNe C sp E) := by
  intro pins s σ H x y v u Q I rx ry h
  obtain ⟨a, dx, fs, b, dy, gs, rfl, rfl, ha, hb', q⟩ := h
  cases (show v = Value.ref a from rx)
  cases (show u = Value.ref b from ry)
  obtain ⟨mA, J, _⟩ := ins_get I.hok ha
  obtain ⟨od, J, _⟩ := J.look
  obtain ⟨mB, J', _⟩ := ins_get I.hok hb'
  obtain ⟨od', J', _⟩ := J'.look
  have go : wpAny (model X.prog X.w) X.A.in1 (call (.ref f) [.ref a, .ref b]) (fun r s' => ∃ c, r = .bool c ∧ EP X pins σ Q (.bool (!c)) s') X.xe s := by
    have r2 : Vals [V.ref a, V.ref b] [Value.ref a, Value.ref b] := .cons rfl (.cons rfl .nil)
    have hl := F.len _ _ _ _ q
    refine wpAny_call (codeAny_mono (F.run X.A.in1 X.stack s H ⟨[.ref a, .ref b], []⟩ [.ref a, .ref b] [.ref a, .ref b] _ E hr.in1 I.env0.in1 (by
      have := hb s [.ref a, .ref b] I.kIn (by simpa using hl)
      simpa using this) r2 q) fun r s' hq => ?_)
    cases r with
    | error e => exact (hx _ _ _ _ hq).elim
    | ok fl =>
      cases fl with
      | ret w =>
        obtain ⟨z, H', I', rz, c, rfl, q⟩ := I.after hq
        cases rz
        exact ⟨c, rfl, .bl (!c), H', I', rfl, q⟩
      | next => exact False.elim hq
      | brk => exact False.elim hq
      | cont => exact False.elim hq
  have one : wpAny (model X.prog X.w) X.A (tryCompare (.ref a) "__ne__" (.ref b)) (fun r s' => ∃ c, r = some (.bool c) ∧ EP X pins σ Q (.bool c) s') X.xe s := by
    unfold tryCompare
    refine wpAny_bind (ifBound_objNe I.kIn J hne (wpAny_call (codeAny_call_builtin PySem.F.cmp_object.ne.plain PySem.F.cmpEntry_ne (PySem.W.check_slot PySem.F.cmpKind_ne PySem.F.cmpSplit_ne (J.type.andThen (PySem.W.looks_mroIn I.kIn hm)) (PySem.F.cmpArgs_ne _ _) (objNe_own hr.in1.units0 I.kIn J hs hf (wpAny_mono go (fun r s' ⟨c, e, q⟩ => ?_) fun _ _ h => h))))))
    exact ⟨c, e, wpAny_pure ⟨_, rfl, q⟩⟩
  show wpAny (model X.prog X.w) X.A (richCompare .NotEq (.ref a) (.ref b)) (EP X pins σ Q) X.xe s
  unfold richCompare
  simp only [oneThing_ref]
  refine wpAny_holding ?_
  refine wpAny_bind (wpAny_cRoomFor hr.units0 ?_)
  rw [cmpInfo_NotEq]
  dsimp only
  refine wpAny_bind (J.type.here (wpAny_bind (J'.type.here ?_)))
  rw [show (Value.ref C != Value.ref C) = false from by simp]
  simp only [Bool.false_eq_true, if_false]
  refine wpAny_bind (wpAny_pure ?_)
  simp only [Bool.false_eq_true, if_false]
  refine wpAny_bind (wpAny_mono one (fun r s' ⟨c, e, q⟩ => ?_) fun _ _ e => e)
  subst e
  exact wpAny_pure q
end
end L2
namespace IdL
open PySem L2 TL
theorem scLenC : FnScope ["self"] ["self"] (defScope sLenC) := ⟨rfl, rfl, rfl, by decide +kernel, rfl, by decide +kernel, by decide +kernel⟩
theorem scItem : FnScope ["self", "number"] ["self", "number"] (defScope sItem) := ⟨rfl, rfl, rfl, by decide +kernel, rfl, by decide +kernel, by decide +kernel⟩
theorem scEqC : FnScope ["self", "other"] ["self", "other"] (defScope sEqC) := ⟨rfl, rfl, rfl, by decide +kernel, rfl, by decide +kernel, by decide +kernel⟩
def spLenC (CC : Addr) : Sp := fun vs H Q _ => ∃ (x : Addr) (kd z : Str) (rv : V), vs = [.ref x] ∧ CdAt H x CC kd rv z ∧ Q (.int ((linesOf z).length : Nat)) H
def spItem (CC : Addr) : Sp := fun vs H Q _ => ∃ (x : Addr) (kd z : Str) (rv : V) (i : Nat) (r : Str), vs = [.ref x, .int ((i : Int) + 1)] ∧ CdAt H x CC kd rv z ∧ (linesOf z)[i]? = some r ∧ Q (.str r) H
/-- two codes, or a code and a text -/
def spEqC (CC CR : Addr) : Sp := fun vs H Q _ => ∃ (x : Addr) (v : V) (kd z : Str) (r : Addr) (k1 : Str) (t m : Int), vs = [.ref x, v] ∧ CdAt H x CC kd (.ref r) z ∧ RulAt H r CR k1 t m ∧
  ((∃ (y : Addr) (kd' z' : Str) (r' : Addr) (k2 : Str) (t' m' : Int), v = .ref y ∧ CdAt H y CC kd' (.ref r') z' ∧ RulAt H r' CR k2 t' m' ∧ Q (.bl (decide (kd = kd') && (decide (k1 = k2) && decide (z = z')))) H) ∨ (∃ s : Str, v = .str s ∧ Q (.bl false) H))
section
variable {P : Program} {w : World} {K : PySem.W.Frag} {mg : Str → Option Value} {base : Heap}
theorem ok_lenC {f CC : Addr} {fd : FuncData} (F : Fun K "__len__" "BookCode.__len__" sLenC f fd) (O : OCd K CC) (ml : mg "len" = none) : FnOk P w K mg base CX0 1 f fd ["self"] (spLenC CC) := by
  refine F.ok scLenC (fun vs H Q E h => ?_) (fun cdv A outer s H vs Q E hr h => ?_)
  · obtain ⟨x, kd, z, rv, rfl, _⟩ := h
    rfl
  · obtain ⟨x, kd, z, rv, rfl, ⟨dx, t1, t2, ja, aa, hx, ht⟩, k⟩ := h
    refine ⟨_, (pss_one (ps_ret (pe_callB call_len (by rfl) ml PySem.boot_len (pa_cons (pe_fld (pv 0) rfl) pa_nil)))), ?_⟩
    refine ⟨_, rfl, x, CC, dx, _, .ref t1, rfl, hx, O.cl, O.no "rows" (by decide +kernel), rfl, ?_⟩
    exact ⟨_, (linesOf z).length, rfl, .inr ⟨_, SqT.of ht, (by simp)⟩, k⟩
theorem ok_item {f CC : Addr} {fd : FuncData} (F : Fun K "__getitem__" "BookCode.__getitem__" sItem f fd) (O : OCd K CC) : FnOk P w K mg base CX0 1 f fd ["self", "number"] (spItem CC) := by
  refine F.ok scItem (fun vs H Q E h => ?_) (fun cdv A outer s H vs Q E hr h => ?_)
  · obtain ⟨x, kd, z, rv, i, r, rfl, _⟩ := h
    rfl
  · obtain ⟨x, kd, z, rv, i, r, rfl, ⟨dx, t1, t2, ja, aa, hx, ht⟩, hi, k⟩ := h
    refine ⟨_, (pss_one (ps_ret (pe_ix (r := rIxT K) ix_tup (pe_fld (pv 0) rfl) (pe_op op_sub (pv 1) pe_int) (fun _ _ => rfl)))), ?_⟩
    refine ⟨_, rfl, x, CC, dx, _, .ref t1, rfl, hx, O.cl, O.no "rows" (by decide +kernel), rfl, _, rfl, _, _, rfl, rfl, ?_⟩
    refine ⟨t1, _, _, .str r, rfl, rfl, SqT.of ht, ?_, k⟩
    rw [show (i : Int) + 1 - 1 = (i : Int) from by omega]
    exact atI_nat (by rw [List.getElem?_map, hi]; rfl)
/-- what a class with its own == asks -/
structure OwnE (K : PySem.W.Frag) (C f : Addr) : Prop where
  hs : PySem.W.findIn K (.ref C) "__eq__" = some (some (.ref f))
  hf : PySem.W.isFn K (.ref f) = true
  hn : PySem.W.subIn K (.type "str") (.ref C) = some false
theorem ok_eqC {f fE CC CR : Addr} {fd dE : FuncData} (F : Fun K "__eq__" "BookCode.__eq__" sEqC f fd) (O : OCd K CC) (IF : InsF K CC) (gC : mg "BookCode" = some (.ref CC)) (isi : mg "isinstance" = none) (OE : OwnE K CR fE) (FE : FnOk P w K mg base CX0 1 fE dE ["self", "other"] (spEq CR)) (hb : Binds K dE ["self", "other"] []) : FnOk P w K mg base CX0 2 f fd ["self", "other"] (spEqC CC CR) := by
  refine F.ok scEqC (fun vs H Q E h => ?_) (fun cdv A outer s H vs Q E hr h => ?_)
  · obtain ⟨x, v, kd, z, r, k1, t, m, rfl, _⟩ := h
    rfl
  · obtain ⟨x, v, kd, z, r, k1, t, m, rfl, ⟨dx, t1, t2, ja, aa, hx, ht⟩, ⟨dr, hR⟩, k⟩ := h
    refine ⟨_, (pss_cons (ps_if (pt_not (pt_val (pe_callB call_isi (by rfl) isi (by decide +kernel) (pa_cons (pv 1) (pa_cons (pe_glob rfl gC (v := .ref CC) rfl) pa_nil))))) (pss_one (ps_ret pe_bl)) pss_nil)
 (pss_one (ps_ret (pe_and (pe_cmpR op_eq (pe_fld (pv 0) rfl) (pe_fld (pv 1) rfl) (nomark _)) (pe_and (pe_cmpR (op_ownEq (C := CR) (E := E0) OE.hs OE.hf OE.hn FE hb hr pass0) (pe_fld (pv 0) rfl) (pe_fld (pv 1) rfl) (nomark _)) (pe_one (pe_cmpR op_eq (pe_fld (pv 0) rfl) (pe_fld (pv 1) rfl) (nomark _)))))))), ?_⟩
    rcases k with ⟨y, kd', z', r', k2, t', m', rfl, ⟨dy, u1, u2, jb, ab, hy, hu⟩, ⟨dq, hR'⟩, k⟩ | ⟨s, rfl, k⟩
    · refine ⟨_, rfl, .ref y, .ref CC, .ref CC, .ref CC, true, rfl, .own _, .base (.ins hy O.cl IF.gc IF.hn IF.tk IF.hm), IF.yes, _, rfl, iteF ?_⟩
      refine ⟨_, rfl, x, CC, dx, _, .str kd, rfl, hx, O.cl, O.no "kind" (by decide +kernel), rfl, _, rfl, y, CC, dy, _, .str kd', rfl, hy, O.cl, O.no "kind" (by decide +kernel), rfl, rfl, ?_⟩
      rw [dec_str]
      refine ⟨_, rfl, ?_⟩
      by_cases h1 : kd = kd'
      · rw [if_pos (decide_eq_true h1)]
        refine ⟨_, rfl, x, CC, dx, _, .ref r, rfl, hx, O.cl, O.no "rules" (by decide +kernel), rfl, _, rfl, y, CC, dy, _, .ref r', rfl, hy, O.cl, O.no "rules" (by decide +kernel), rfl, ?_⟩
        refine ⟨r, dr, _, rfl, hR, .inl ⟨r', dq, _, rfl, hR'⟩, ?_⟩
        refine ⟨r, .ref r', k1, t, m, rfl, ⟨dr, hR⟩, .inl ⟨r', k2, t', m', rfl, ⟨dq, hR'⟩, ?_⟩⟩
        refine ⟨_, rfl, ?_⟩
        by_cases h2 : k1 = k2
        · rw [if_pos (decide_eq_true h2)]
          refine ⟨_, rfl, x, CC, dx, _, .str z, rfl, hx, O.cl, O.no "text" (by decide +kernel), rfl, _, rfl, y, CC, dy, _, .str z', rfl, hy, O.cl, O.no "text" (by decide +kernel), rfl, rfl, ?_⟩
          rw [dec_str]
          rw [decide_eq_true h1, decide_eq_true h2, Bool.true_and, Bool.true_and] at k
          exact k
        · rw [if_neg (by rw [decide_eq_false h2]; exact Bool.false_ne_true)]
          rw [decide_eq_true h1, decide_eq_false h2, Bool.true_and, Bool.false_and] at k
          exact k
      · rw [if_neg (by rw [decide_eq_false h1]; exact Bool.false_ne_true)]
        rw [decide_eq_false h1, Bool.false_and] at k
        exact k
    · exact ⟨_, rfl, .str s, .ref CC, .type "str", .ref CC, false, rfl, .own _, .base (.str s), IF.str, _, rfl, iteT k⟩
end
end IdL
namespace IdL
open PySem L2 TL
abbrev sTe : Stmt := top 100
abbrev sTx : Stmt := top 101
theorem scTe : FnScope ["_law_text_here", "_law_words", "_law_found", "_law_k"] ["_law_text_here"] (defScope sTe) := ⟨rfl, rfl, rfl, by decide +kernel, rfl, by decide +kernel, by decide +kernel⟩
theorem scTx : FnScope ["_law_terms_here", "_law_words", "_law_sign", "_law_atom"] ["_law_terms_here"] (defScope sTx) := ⟨rfl, rfl, rfl, by decide +kernel, rfl, by decide +kernel, by decide +kernel⟩
structure FDr (K : PySem.W.Frag) (mg : Str → Option Value) (f : Addr) (d : FuncData) : Prop where
  u : Fun K "_law_draw" "_law_draw" sDraw f d
  b : Binds K d ["_law_pen", "_law_span"] []
  g : mg "_law_draw" = some (.ref f)
theorem SameBut.trans {b : Addr} {H H1 H2 : Hp} (h : SameBut b H H1) (k : SameBut b H1 H2) : SameBut b H H2 := fun a o na e => k a o na (h a o na e)
theorem SameBut.of {b : Addr} {H H1 : Hp} (h : Same H H1) : SameBut b H H1 := fun a o _ e => h a o e
theorem PenL.ne {H : Hp} {b l : Addr} {n : Nat} (B : PenL H b l n) {a : Addr} (h : H a = none) : a ≠ b ∧ a ≠ l := ⟨fun y => B.there.1 (y ▸ h), fun y => B.there.2 (y ▸ h)⟩
theorem at_mem {xs : List V} {r : Int} (h0 : 0 ≤ r) (h1 : r < xs.length) : ∃ v ∈ xs, atI xs r = some v := by
  obtain ⟨j, rfl⟩ : ∃ j : Nat, r = j := ⟨r.toNat, by omega⟩
  have hj : j < xs.length := by omega
  exact ⟨xs[j], List.getElem_mem hj, atI_nat (List.getElem?_eq_getElem hj)⟩
/-! ### terms as the law lists them -/
abbrev Ts := Int × Str
def QT (H : Hp) (p : Addr) (t : Ts) : Prop := H p = some (.tup [.int t.1, .str t.2])
inductive QTs (H : Hp) : List Addr → List Ts → Prop
  | nil : QTs H [] []
  | cons {p : Addr} {t : Ts} {ps : List Addr} {ts : List Ts} : QT H p t → QTs H ps ts → QTs H (p :: ps) (t :: ts)
theorem QTs.len {H : Hp} : ∀ {ps : List Addr} {ts : List Ts}, QTs H ps ts → ps.length = ts.length
  | _, _, .nil => rfl
  | _, _, .cons _ t => by rw [List.length_cons, List.length_cons, QTs.len t]
theorem QTs.keep {H H' : Hp} (s : ∀ a xs, H a = some (.tup xs) → H' a = some (.tup xs)) : ∀ {ps : List Addr} {ts : List Ts}, QTs H ps ts → QTs H' ps ts
  | _, _, .nil => .nil
  | _, _, .cons h t => .cons (s _ _ h) (QTs.keep s t)
theorem QTs.get {H : Hp} : ∀ {ps : List Addr} {ts : List Ts}, QTs H ps ts → ∀ {i : Nat} {p : Addr}, ps[i]? = some p → ∃ t, ts[i]? = some t ∧ QT H p t
  | _, _, .cons h t, 0, p, e => by cases e; exact ⟨_, rfl, h⟩
  | _, _, .cons h t, i + 1, p, e => QTs.get t (i := i) e
theorem QTs.app {H : Hp} : ∀ {ps qs : List Addr} {ts us : List Ts}, QTs H ps ts → QTs H qs us → QTs H (ps ++ qs) (ts ++ us)
  | _, _, _, _, .nil, k => k
  | _, _, _, _, .cons h t, k => .cons h (QTs.app t k)
def TmsS (H : Hp) (a : Addr) (ts : List Ts) : Prop := ∃ ps : List Addr, H a = some (.lst (ps.map V.ref)) ∧ QTs H ps ts
def sgTx (i : Int) : Str := if 0 < i then "+" else "-"
def restS : List Ts → List Str
  | [] => []
  | t :: ts => sgTx t.1 :: t.2 :: restS ts
def wordsS : List Ts → List Str
  | [] => []
  | t :: ts => t.2 :: restS ts
def textS (ts : List Ts) : Str := Txt.join " " (wordsS ts)
def FewT (ts : List Ts) : Prop := ts ≠ [] ∧ ts.length ≤ 10 ∧ ∀ t ∈ ts, t.2.length ≤ 40
def spTx : Sp := fun vs H Q _ => ∃ (a : Addr) (ts : List Ts), vs = [.ref a] ∧ TmsS H a ts ∧ FewT ts ∧ ∀ H', Same H H' → Q (.str (textS ts)) H'
theorem restS_len : ∀ ts : List Ts, (restS ts).length = 2 * ts.length
  | [] => rfl
  | t :: ts => by
    show (restS ts).length + 1 + 1 = 2 * (ts.length + 1)
    rw [restS_len ts]; omega
theorem restS_app (a b : List Ts) : restS (a ++ b) = restS a ++ restS b := by
  induction a with
  | nil => rfl
  | cons t a ih =>
    show sgTx t.1 :: t.2 :: restS (a ++ b) = sgTx t.1 :: t.2 :: (restS a ++ restS b)
    rw [ih]
theorem sum_le_mul {l : List Nat} {k : Nat} : (∀ x ∈ l, x ≤ k) → l.sum ≤ l.length * k := by
  induction l with
  | nil => intro _; exact Nat.zero_le _
  | cons a l ih =>
    intro h
    have h1 := h a (List.mem_cons_self ..)
    have h2 := ih fun x hx => h x (List.mem_cons_of_mem _ hx)
    rw [List.sum_cons, List.length_cons, Nat.succ_mul]
    omega
theorem sgS_len (i : Int) : (sgTx i).length ≤ 40 := by
  unfold sgTx
  by_cases h : 0 < i
  · rw [if_pos h]; decide +kernel
  · rw [if_neg h]; decide +kernel
theorem restS_ok : ∀ {ts : List Ts}, (∀ t ∈ ts, t.2.length ≤ 40) → ∀ w ∈ restS ts, w.length ≤ 40
  | [], _, w, hw => absurd hw List.not_mem_nil
  | t :: ts, ht, w, hw => by
    rcases List.mem_cons.mp hw with e | e
    · rw [e]; exact sgS_len _
    rcases List.mem_cons.mp e with e | e
    · rw [e]; exact ht t (List.mem_cons_self ..)
    · exact restS_ok (fun x hx => ht x (List.mem_cons_of_mem _ hx)) w e
theorem wordsS_ok {ts : List Ts} (ht : ∀ t ∈ ts, t.2.length ≤ 40) : ∀ w ∈ wordsS ts, w.length ≤ 40 := fun w hw => by
  cases ts with
  | nil => exact absurd hw List.not_mem_nil
  | cons t ts =>
    rcases List.mem_cons.mp hw with e | e
    · rw [e]; exact ht t (List.mem_cons_self ..)
    · exact restS_ok (fun x hx => ht x (List.mem_cons_of_mem _ hx)) w e
theorem wordsS_len {ts : List Ts} : (wordsS ts).length ≤ 2 * ts.length := by
  cases ts with
  | nil => exact Nat.zero_le _
  | cons t ts =>
    show (restS ts).length + 1 ≤ 2 * (ts.length + 1)
    rw [restS_len]; omega
theorem wordsS_sum {ts : List Ts} (ht : FewT ts) : ((wordsS ts).map (·.length)).sum ≤ 800 := by
  have h1 := sum_le_mul (l := (wordsS ts).map (·.length)) (k := 40) fun x hx => by
    obtain ⟨w, hw, rfl⟩ := List.mem_map.mp hx
    exact wordsS_ok ht.2.2 w hw
  have h2 := wordsS_len (ts := ts)
  have h3 := ht.2.1
  rw [List.length_map] at h1
  omega
section
variable {P : Program} {w : World} {K : PySem.W.Frag} {mg : Str → Option Value} {base : Heap}
theorem ok_tx {f : Addr} {fd : FuncData} (F : Fun K "_law_sum_text" "_law_sum_text" sTx f fd) : FnOk P w K mg base CX0 1 f fd ["_law_terms_here"] spTx := by
  refine F.ok scTx (fun vs H Q E h => ?_) (fun cdv A outer s H vs Q E hr h => ?_)
  · obtain ⟨a, ts, rfl, _⟩ := h
    rfl
  · obtain ⟨a, ts, rfl, ⟨ps, ha, hp⟩, few, k⟩ := h
    refine ⟨_, (pss_cons (ps_set (i := 1) scTx.nd rfl (.inl rfl) (pe_lst (pa_cons (pe_ix ix_tup (pe_ix ix_list (pv 0) pe_int (fun _ _ => rfl)) pe_int (fun _ _ => rfl)) pa_nil)))
 (pss_cons (ps_for PassesOwn.never rfl (pi_list (pe_slice (r := rSlL K) sl_list (pv 0) (po_some pe_int) po_none)) (pg_tup rfl (pgs_cons (pg_name (i := 2) scTx.nd rfl (.inl rfl)) (pgs_cons (pg_name (i := 3) scTx.nd rfl (.inl rfl)) pgs_nil)))
        (pss_one (ps_set (i := 1) scTx.nd rfl (.inl rfl) (pe_op op_cat (pv 1) (pe_lst (pa_cons (pe_cut (pe_ifExp (pt_cmpR op_gt (pv 2) pe_int (nomark _)) pe_str pe_str)) (pa_cons (pv 3) pa_nil)))))))
 (pss_one (ps_ret (pe_join pe_str (pv 1)))))), ?_⟩
    cases hp with
    | nil => exact absurd rfl few.1
    | @cons p t ps ts h0 hp =>
    have lps := hp.len
    have lts : ts.length + 1 ≤ 10 := few.2.1
    refine ⟨_, rfl, a, _, _, .ref p, rfl, rfl, SqL.of ha, atI_nat (j := 0) rfl, p, _, _, .str (t.2), rfl, rfl, .inl (.inl h0), rfl, (by show 1 ≤ sizeLine; decide), fun q hq => ?_⟩
    have s1 : Same H _ := same_new (o := .lst [.str (t.2)]) hq
    have q1 : upd H q (.lst [.str (t.2)]) q = some (.lst [.str (t.2)]) := upd_same
    show gName 1 _ _ (upd H q (.lst [.str (t.2)])) _
    generalize upd H q (.lst [.str (t.2)]) = H1 at *
    refine ⟨_, rfl, _, rfl, a, _, rfl, SqL.of (s1 _ _ ha), fun c hc => ?_⟩
    have s2 : Same H1 _ := same_new (o := .lst (ps.map V.ref)) hc
    have c2 : upd H1 c (.lst (ps.map V.ref)) c = some (.lst (ps.map V.ref)) := upd_same
    rw [show cutV ((p :: ps).map V.ref) (some 1) none = ps.map V.ref from (cut_from _ 1)]
    generalize upd H1 c (.lst (ps.map V.ref)) = H2 at *
    have s12 := s1.trans s2
    refine ⟨c, rfl, ⟨_, SqL.of c2⟩, for_list (K := K) (a := c) (xs := ps.map V.ref) (fun i σ G => ∃ (q : Addr) (v2 v3 : Option V), σ = [some (.ref a), some (.ref q), v2, v3] ∧ Same H2 G ∧ G q = some (.lst ((t.2 :: restS (ts.take i)).map V.str))) ⟨q, none, none, rfl, Same.refl H2, s2 _ _ q1⟩ (fun i σ G _ ⟨_, _, _, _, sG, _⟩ => SqL.of (sG _ _ c2)) ?_ ?_⟩
    · rintro i x σ G hi ⟨q, v2, v3, rfl, sG, hq⟩
      rw [List.getElem?_map] at hi
      obtain ⟨p', hp', rfl⟩ := Option.map_eq_some_iff.mp hi
      obtain ⟨u, hu, hpt⟩ := hp.get hp'
      have li : i < ts.length := (List.getElem?_eq_some_iff.mp hu).1
      have hpG : G p' = some (.tup [.int u.1, .str (u.2)]) := sG _ _ (s12 _ _ hpt)
      refine ⟨p', _, rfl, .inl (.inl hpG), rfl, _, _, rfl, _, _, rfl, rfl, ?_⟩
      refine ⟨_, rfl, fun v G' => v = .str (sgTx u.1) ∧ G' = G, ?_, ?_⟩
      · refine ⟨_, rfl, _, _, rfl, rfl, _, rfl, ?_⟩
        unfold sgTx
        by_cases h : 0 < u.1
        · exact iteY h ⟨by rw [if_pos h], rfl⟩
        · exact iteN h ⟨by rw [if_neg h], rfl⟩
      rintro v G' ⟨rfl, rfl⟩
      refine ⟨_, rfl, (by show 2 ≤ sizeLine; decide), fun r hr => ?_⟩
      have s3 : Same G' _ := same_new (o := .lst [.str (sgTx u.1), .str (u.2)]) hr
      have r3 : upd G' r (.lst [.str (sgTx u.1), .str (u.2)]) r = some (.lst [.str (sgTx u.1), .str (u.2)]) := upd_same
      show rCat _ _ (upd G' r (.lst [.str (sgTx u.1), .str (u.2)])) _
      generalize upd G' r (.lst [.str (sgTx u.1), .str (u.2)]) = G3 at *
      have lr := restS_len (ts.take i)
      have lti : (ts.take i).length ≤ i := List.length_take_le _ _
      refine ⟨q, r, _, _, rfl, rfl, s3 _ _ hq, r3, (by rw [List.length_map, List.length_cons, sizeLine_eq]; show _ + 2 ≤ _; omega), fun m hm => ?_⟩
      refine ⟨m, _, _, rfl, (sG.trans s3).trans (same_new hm), ?_⟩
      rw [upd_same, take_snoc_ hu, restS_app, ← List.cons_append, List.map_append]; rfl
    · rintro σ G ⟨q, v2, v3, rfl, sG, hq⟩
      rw [List.length_map, lps, List.take_length] at hq
      have hsum := wordsS_sum few
      have hlen := wordsS_len (ts := t :: ts)
      refine ⟨⟨_, rfl⟩, _, rfl, _, q, wordsS (t :: ts), rfl, rfl, .inl (SqL.of hq), ?_, k _ (s12.trans sG)⟩
      have : (t :: ts).length ≤ 10 := few.2.1
      show _ + _ * 1 ≤ _
      omega
end
end IdL
namespace IdL
open PySem L2 TL
def termAt (ws : List Str) (i : Nat) : Ts := (if 0 < i ∧ ws[2 * i - 1]? = some ("-" : Str) then -1 else 1, (ws[2 * i]?).getD "")
def termsOf (ws : List Str) (n : Nat) : List Ts := (List.range n).map (termAt ws)
theorem termsOf_succ (ws : List Str) (n : Nat) : termsOf ws (n + 1) = termsOf ws n ++ [termAt ws n] := by
  unfold termsOf
  rw [List.range_succ, List.map_append]; rfl
def spTe : Sp := fun vs H Q _ => ∃ (z : Str) (n : Nat), vs = [.str z] ∧ z.length ≤ 1000 ∧ RgC 0 ((Txt.split z " ").length : Nat) 2 n ∧ (∀ i, i < n → 2 * i < (Txt.split z " ").length) ∧ n ≤ 10 ∧
  ∀ (a : Addr) (H' : Hp), H a = none → Same H H' → TmsS H' a (termsOf (Txt.split z " ") n) → Q (.ref a) H'
section
variable {P : Program} {w : World} {K : PySem.W.Frag} {mg : Str → Option Value} {base : Heap}
theorem ok_te {f : Addr} {fd : FuncData} (F : Fun K "_law_terms" "_law_terms" sTe f fd) (T : Glob mg) (rg : mg "range" = none) : FnOk P w K mg base CX0 1 f fd ["_law_text_here"] spTe := by
  refine F.ok scTe (fun vs H Q E h => ?_) (fun cdv A outer s H vs Q E hr h => ?_)
  · obtain ⟨z, n, rfl, _⟩ := h
    rfl
  · obtain ⟨z, n, rfl, lz, hn, hw, few, k⟩ := h
    refine ⟨_, (pss_cons (ps_par (i := 1) (j := 2) (by rfl) scTe.nd rfl rfl (by decide) rfl rfl (pa_cons (pe_split (pv 0) pe_str) (pa_cons (pe_lst pa_nil) pa_nil)) (by rfl))
 (pss_cons (ps_for PassesOwn.never rfl (pi_range3 rfl rg (pa_cons pe_int (pa_cons (pe_callB call_len (by rfl) T.len PySem.boot_len (pa_cons (pv 1) pa_nil)) (pa_cons pe_int pa_nil)))) (pg_name (i := 3) scTe.nd rfl (.inl rfl))
        (pss_one (ps_expr (pe_bm PySem.F.plainAttrs_list PySem.F.slot_list_append PySem.F.type_list_append mt_append (pv 2) (pa_cons (pe_tup (pa_cons (pe_cut (pe_ifExp (PW.pt (pw_and (pt_cmpR op_gt (pv 3) pe_int (nomark _)) (pw_and1 (pt_cmpR op_eq (pe_ix ix_list (pv 1) (pe_op op_sub (pv 3) pe_int) (fun _ _ => rfl)) pe_str (nomark _))))) (pe_un un_neg pe_int) pe_int)) (pa_cons (pe_ix ix_list (pv 1) (pv 3) (fun _ _ => rfl)) pa_nil))) pa_nil)))))
 (pss_one (ps_ret (pv 2))))), ?_⟩
    refine ⟨_, rfl, ⟨_, rfl⟩, z, _, rfl, rfl, (by decide +kernel), (by rw [sizeLine_eq]; omega), fun wl hwl => ?_⟩
    generalize Txt.split z " " = ws at *
    have s1 : Same H _ := same_new (o := .lst (ws.map V.str)) hwl
    have w1 : upd H wl (.lst (ws.map V.str)) wl = some (.lst (ws.map V.str)) := upd_same
    show tLst _ _ (upd H wl (.lst (ws.map V.str))) _
    generalize upd H wl (.lst (ws.map V.str)) = H1 at *
    refine ⟨Nat.zero_le _, fun D hD => ?_⟩
    have s2 : Same H1 _ := same_new (o := .lst ([] : List V)) hD
    have D2 : upd H1 D (.lst ([] : List V)) D = some (.lst (([] : List Addr).map V.ref)) := upd_same
    generalize upd H1 D (.lst ([] : List V)) = H2 at *
    have s12 := s1.trans s2
    refine ⟨_, _, rfl, ?_⟩
    refine ⟨_, rfl, _, ws.length, rfl, .inl ⟨_, SqL.of (s2 _ _ w1), (by simp)⟩, ?_⟩
    refine ⟨0, (ws.length : Nat), 2, n, rfl, hn, for_rangeC (lo := 0) (c := 2) (n := n) (fun i σ G => ∃ (ps : List Addr) (v : Option V), σ = [some (.str z), some (.ref wl), some (.ref D), v] ∧ Same H G ∧ G wl = some (.lst (ws.map V.str)) ∧ G D = some (.lst (ps.map V.ref)) ∧ QTs G ps (termsOf ws i)) ⟨[], none, rfl, s12, s2 _ _ w1, D2, .nil⟩ ?_ ?_⟩
    · rintro i σ G hi ⟨ps, v, rfl, sG, wG, DG, qG⟩
      refine ⟨_, rfl, .inl ⟨rfl, _, SqL.of DG⟩, ?_⟩
      have hwi := hw i hi
      obtain ⟨wd, hwd⟩ : ∃ wd, ws[2 * i]? = some wd := ⟨ws[2 * i], List.getElem?_eq_getElem hwi⟩
      have lps := qG.len
      have lts : (termsOf ws i).length = i := by unfold termsOf; rw [List.length_map, List.length_range]
      refine ⟨fun v G' => v = .int (termAt ws i).1 ∧ G' = G, ?_, ?_⟩
      · refine ⟨_, rfl, _, _, rfl, rfl, _, rfl, ?_⟩
        by_cases h0 : 0 < i
        · obtain ⟨wp, hwp⟩ : ∃ wp, ws[2 * i - 1]? = some wp := ⟨ws[2 * i - 1]'(by omega), List.getElem?_eq_getElem (by omega)⟩
          refine iteY (show (0 : Int) < 0 + (i : Nat) * 2 by omega) ?_
          refine ⟨_, rfl, _, rfl, _, _, rfl, rfl, wl, _, _, .str wp, rfl, rfl, SqL.of wG, (by rw [show (0 : Int) + (i : Nat) * 2 - 1 = ((2 * i - 1 : Nat) : Int) by omega]; exact atI_nat (by rw [List.getElem?_map, hwp]; rfl)), rfl, _, rfl, ?_⟩
          by_cases h1 : wp = "-"
          · refine iteY (show V.str wp = V.str "-" by rw [h1]) ⟨_, rfl, ?_, rfl⟩
            show V.int (-1) = V.int (if _ then _ else _)
            rw [if_pos ⟨h0, by rw [hwp, h1]⟩]
          · refine iteN (show ¬ V.str wp = V.str "-" from fun y => h1 (by injection y)) ⟨?_, rfl⟩
            show V.int 1 = V.int (if _ then _ else _)
            rw [if_neg (fun y => h1 (by have := y.2; rw [hwp] at this; injection this))]
        · refine iteN (show ¬ (0 : Int) < 0 + (i : Nat) * 2 by omega) ?_
          dsimp only
          rw [if_neg Bool.false_ne_true]
          refine ⟨?_, rfl⟩
          show V.int 1 = V.int (if _ then _ else _)
          rw [if_neg (fun y => h0 y.1)]
      · rintro v G' ⟨rfl, rfl⟩
        refine ⟨_, rfl, _, rfl, wl, _, _, .str wd, rfl, rfl, SqL.of wG, (by rw [show (0 : Int) + (i : Nat) * 2 = ((2 * i : Nat) : Int) by omega]; exact atI_nat (by rw [List.getElem?_map, hwd]; rfl)), (by show 2 ≤ sizeLine; decide), fun q hq => ?_⟩
        have s3 : Same G' _ := same_new (o := .tup [.int (termAt ws i).1, .str wd]) hq
        have q3 : upd G' q (.tup [.int (termAt ws i).1, .str wd]) q = some (.tup [.int (termAt ws i).1, .str wd]) := upd_same
        have ed : (termAt ws i).2 = wd := by show (ws[2 * i]?).getD "" = wd; rw [hwd]; rfl
        have nDw : wl ≠ D := fun y => by rw [y, hD] at w1; cases w1
        have D3 := s3 _ _ DG
        refine ⟨D, _, .ref q, rfl, rfl, D3, (by rw [List.length_map, sizeLine_eq]; omega), ps ++ [q], _, rfl, fun c o e => ?_, ?_, ?_, ?_⟩
        · rw [upd_ne (fun y => by rw [y] at e; rw [s1 _ _ e] at hD; cases hD)]
          exact s3 _ _ (sG _ _ e)
        · rw [upd_ne nDw]; exact s3 _ _ wG
        · rw [upd_same, List.map_append]; rfl
        · rw [termsOf_succ]
          refine QTs.app (QTs.keep (fun a xs e => ?_) qG) (.cons ?_ .nil)
          · rw [upd_ne (fun y => by rw [y, DG] at e; cases e)]; exact s3 _ _ e
          · show upd (upd G' q (.tup [.int (termAt ws i).1, .str wd])) D _ q = some (.tup [.int (termAt ws i).1, .str (termAt ws i).2])
            rw [upd_ne (fun y => by rw [y, DG] at hq; cases hq), ed]; exact q3
    · rintro σ G ⟨ps, v, rfl, sG, wG, DG, qG⟩
      exact ⟨_, rfl, k D G (by
        cases e : H D with
        | none => rfl
        | some o => rw [s1 _ _ e] at hD; cases hD) sG ⟨ps, DG, qG⟩⟩
end
end IdL
namespace IdL
open PySem L2 TL
abbrev sSet : Stmt := top 104
abbrev sWrap : Stmt := top 105
abbrev sIf : Stmt := top 106
theorem scSet : FnScope ["_law_name", "_law_text_here"] ["_law_name", "_law_text_here"] (defScope sSet) := ⟨rfl, rfl, rfl, by decide +kernel, rfl, by decide +kernel, by decide +kernel⟩
theorem scWrap : FnScope ["_law_name", "_law_text_here"] ["_law_name", "_law_text_here"] (defScope sWrap) := ⟨rfl, rfl, rfl, by decide +kernel, rfl, by decide +kernel, by decide +kernel⟩
theorem scIf : FnScope ["_law_one", "_law_sign", "_law_other", "_law_rows"] ["_law_one", "_law_sign", "_law_other", "_law_rows"] (defScope sIf) := ⟨rfl, rfl, rfl, by decide +kernel, rfl, by decide +kernel, by decide +kernel⟩
structure FTe (K : PySem.W.Frag) (mg : Str → Option Value) (f : Addr) (d : FuncData) : Prop where
  u : Fun K "_law_terms" "_law_terms" sTe f d
  b : Binds K d ["_law_text_here"] []
  g : mg "_law_terms" = some (.ref f)
/-- a text of terms -/
structure TeOk (z : Str) (n : Nat) : Prop where
  l : z.length ≤ 1000
  r : RgC 0 ((Txt.split z " ").length : Nat) 2 n
  w : ∀ i, i < n → 2 * i < (Txt.split z " ").length
  f : n ≤ 10
def tmsOf (z : Str) (n : Nat) : List Ts := termsOf (Txt.split z " ") n
def spTag (tag : Str) : Sp := fun vs H Q _ => ∃ (m z : Str) (n : Nat), vs = [.str m, .str z] ∧ TeOk z n ∧ ∀ (p a : Addr) (H' : Hp), Same H H' → H' p = some (.tup [.str tag, .str m, .ref a]) → TmsS H' a (tmsOf z n) → Q (.ref p) H'
def spIf : Sp := fun vs H Q _ => ∃ (a b c : Str) (rl : Addr), vs = [.str a, .str b, .str c, .ref rl] ∧ ∀ (p q t : Addr) (H' : Hp), Same H H' → H' p = some (.tup [.str "if", .ref q, .ref rl, .non]) → H' q = some (.lst [.ref t]) → H' t = some (.tup [.bl true, .str a, .str b, .str c]) → Q (.ref p) H'
theorem TmsS.same {H H' : Hp} {a : Addr} {ts : List Ts} (h : TmsS H a ts) (s : Same H H') : TmsS H' a ts := by
  obtain ⟨ps, h1, h2⟩ := h
  exact ⟨ps, s _ _ h1, h2.keep fun a xs e => s _ _ e⟩
section
variable {P : Program} {w : World} {K : PySem.W.Frag} {mg : Str → Option Value} {base : Heap}
theorem ok_set {f fT : Addr} {fd dT : FuncData} (F : Fun K "_law_set" "_law_set" sSet f fd) (TE : FTe K mg fT dT) (OT : FnOk P w K mg base CX0 1 fT dT ["_law_text_here"] spTe) : FnOk P w K mg base CX0 2 f fd ["_law_name", "_law_text_here"] (spTag "set") := by
  refine F.ok scSet (fun vs H Q E h => ?_) (fun cdv A outer s H vs Q E hr h => ?_)
  · obtain ⟨m, z, n, rfl, _⟩ := h
    rfl
  · obtain ⟨m, z, n, rfl, ok, k⟩ := h
    refine ⟨_, (pss_one (ps_ret (pe_tup (pa_cons pe_str (pa_cons (pv 0) (pa_cons (pe_call OT hr rfl TE.g TE.u.kp TE.b .nil pass0 (pa_cons (pv 1) pa_nil)) pa_nil)))))), ?_⟩
    refine ⟨_, rfl, _, rfl, z, n, rfl, ok.l, ok.r, ok.w, ok.f, fun a G ha s1 ta => ⟨(by show 3 ≤ sizeLine; decide), fun p hp => ?_⟩⟩
    have s2 : Same G _ := same_new (o := .tup [.str "set", .str m, .ref a]) hp
    exact k p a _ (s1.trans s2) upd_same (TmsS.same ta s2)
theorem ok_wrap {f fT : Addr} {fd dT : FuncData} (F : Fun K "_law_wrap" "_law_wrap" sWrap f fd) (TE : FTe K mg fT dT) (OT : FnOk P w K mg base CX0 1 fT dT ["_law_text_here"] spTe) : FnOk P w K mg base CX0 2 f fd ["_law_name", "_law_text_here"] (spTag "wrap") := by
  refine F.ok scWrap (fun vs H Q E h => ?_) (fun cdv A outer s H vs Q E hr h => ?_)
  · obtain ⟨m, z, n, rfl, _⟩ := h
    rfl
  · obtain ⟨m, z, n, rfl, ok, k⟩ := h
    refine ⟨_, (pss_one (ps_ret (pe_tup (pa_cons pe_str (pa_cons (pv 0) (pa_cons (pe_call OT hr rfl TE.g TE.u.kp TE.b .nil pass0 (pa_cons (pv 1) pa_nil)) pa_nil)))))), ?_⟩
    refine ⟨_, rfl, _, rfl, z, n, rfl, ok.l, ok.r, ok.w, ok.f, fun a G ha s1 ta => ⟨(by show 3 ≤ sizeLine; decide), fun p hp => ?_⟩⟩
    have s2 : Same G _ := same_new (o := .tup [.str "wrap", .str m, .ref a]) hp
    exact k p a _ (s1.trans s2) upd_same (TmsS.same ta s2)
theorem ok_if {f : Addr} {fd : FuncData} (F : Fun K "_law_if" "_law_if" sIf f fd) : FnOk P w K mg base CX0 1 f fd ["_law_one", "_law_sign", "_law_other", "_law_rows"] spIf := by
  refine F.ok scIf (fun vs H Q E h => ?_) (fun cdv A outer s H vs Q E hr h => ?_)
  · obtain ⟨a, b, c, rl, rfl, _⟩ := h
    rfl
  · obtain ⟨a, b, c, rl, rfl, k⟩ := h
    refine ⟨_, (pss_one (ps_ret (pe_tup (pa_cons pe_str (pa_cons (pe_lst (pa_cons (pe_tup (pa_cons pe_bl (pa_cons (pv 0) (pa_cons (pv 1) (pa_cons (pv 2) pa_nil))))) pa_nil)) (pa_cons (pv 3) (pa_cons pe_non pa_nil))))))), ?_⟩
    refine ⟨_, rfl, _, rfl, _, rfl, (by show 4 ≤ sizeLine; decide), fun t ht => ?_⟩
    have s1 : Same H _ := same_new (o := .tup [.bl true, .str a, .str b, .str c]) ht
    have t1 : upd H t (.tup [.bl true, .str a, .str b, .str c]) t = some (.tup [.bl true, .str a, .str b, .str c]) := upd_same
    refine ⟨(by show 1 ≤ sizeLine; decide), fun q hq => ?_⟩
    have s2 : Same _ _ := same_new (o := .lst [.ref t]) hq
    refine ⟨_, rfl, (by show 4 ≤ sizeLine; decide), fun p hp => ?_⟩
    have s3 : Same _ _ := same_new (o := .tup [.str "if", .ref q, .ref rl, .non]) hp
    exact k p q t _ ((s1.trans s2).trans s3) upd_same (s3 _ _ upd_same) (s3 _ _ (s2 _ _ t1))
end
end IdL
namespace IdL
open PySem L2 TL
/-! ### rows as the law builds them -/
inductive Rw0
  | one (a : Str)
  | two (a b : Str)
  | tag (t m : Str) (ts : List Ts)
  | sea (n q : Str)
  | tim (t : Str) (ts : List Ts)
  | til (t g : Str)
inductive Rw
  | flat (r : Rw0)
  | iff (a b c : Str) (rs : List Rw0)
def R0At (H : Hp) (p : Addr) : Rw0 → Prop
  | .one a => H p = some (.tup [.str a])
  | .two a b => H p = some (.tup [.str a, .str b])
  | .tag t m ts => ∃ a, H p = some (.tup [.str t, .str m, .ref a]) ∧ TmsS H a ts
  | .sea n q => H p = some (.tup [.str "sealed", .str n, .str q])
  | .tim t ts => ∃ a, H p = some (.tup [.str t, .ref a, .non]) ∧ TmsS H a ts
  | .til t g => H p = some (.tup [.str t, .non, .str g])
inductive Ats {α : Type} (R : Addr → α → Prop) : List Addr → List α → Prop
  | nil : Ats R [] []
  | cons {p : Addr} {t : α} {ps : List Addr} {ts : List α} : R p t → Ats R ps ts → Ats R (p :: ps) (t :: ts)
section
variable {α : Type} {R S : Addr → α → Prop}
theorem Ats.len : ∀ {ps : List Addr} {ts : List α}, Ats R ps ts → ps.length = ts.length
  | _, _, .nil => rfl
  | _, _, .cons _ t => by rw [List.length_cons, List.length_cons, Ats.len t]
theorem Ats.mono (s : ∀ a r, R a r → S a r) : ∀ {ps : List Addr} {ts : List α}, Ats R ps ts → Ats S ps ts
  | _, _, .nil => .nil
  | _, _, .cons h t => .cons (s _ _ h) (Ats.mono s t)
theorem Ats.get : ∀ {ps : List Addr} {ts : List α}, Ats R ps ts → ∀ {i : Nat} {p : Addr}, ps[i]? = some p → ∃ t, ts[i]? = some t ∧ R p t
  | _, _, .cons h t, 0, p, e => by cases e; exact ⟨_, rfl, h⟩
  | _, _, .cons h t, i + 1, p, e => Ats.get t (i := i) e
theorem Ats.app : ∀ {ps qs : List Addr} {ts us : List α}, Ats R ps ts → Ats R qs us → Ats R (ps ++ qs) (ts ++ us)
  | _, _, _, _, .nil, k => k
  | _, _, _, _, .cons h t, k => .cons h (Ats.app t k)
theorem Ats.take : ∀ {ps : List Addr} {ts : List α}, Ats R ps ts → ∀ n, Ats R (ps.take n) (ts.take n)
  | _, _, .nil, n => by rw [List.take_nil, List.take_nil]; exact .nil
  | _, _, .cons h t, 0 => .nil
  | _, _, .cons h t, n + 1 => .cons h (Ats.take t n)
theorem Ats.drop : ∀ {ps : List Addr} {ts : List α}, Ats R ps ts → ∀ n, Ats R (ps.drop n) (ts.drop n)
  | _, _, .nil, n => by rw [List.drop_nil, List.drop_nil]; exact .nil
  | _, _, .cons h t, 0 => .cons h t
  | _, _, .cons h t, n + 1 => Ats.drop t n
end
def L0At (H : Hp) (a : Addr) (rs : List Rw0) : Prop := ∃ ps : List Addr, H a = some (.lst (ps.map V.ref)) ∧ Ats (R0At H) ps rs
def RAt (H : Hp) (p : Addr) : Rw → Prop
  | .flat r => R0At H p r
  | .iff a b c rs => ∃ q t rl, H p = some (.tup [.str "if", .ref q, .ref rl, .non]) ∧ H q = some (.lst [.ref t]) ∧ H t = some (.tup [.bl true, .str a, .str b, .str c]) ∧ L0At H rl rs
def LAt (H : Hp) (a : Addr) (rs : List Rw) : Prop := ∃ ps : List Addr, H a = some (.lst (ps.map V.ref)) ∧ Ats (RAt H) ps rs
theorem R0At.same {H H' : Hp} {p : Addr} {r : Rw0} (h : R0At H p r) (s : Same H H') : R0At H' p r := by
  cases r with
  | one a => exact s _ _ h
  | two a b => exact s _ _ h
  | tag t m ts => obtain ⟨a, h1, h2⟩ := h; exact ⟨a, s _ _ h1, h2.same s⟩
  | sea n q => exact s _ _ h
  | tim t ts => obtain ⟨a, h1, h2⟩ := h; exact ⟨a, s _ _ h1, h2.same s⟩
  | til t g => exact s _ _ h
theorem L0At.same {H H' : Hp} {p : Addr} {rs : List Rw0} (h : L0At H p rs) (s : Same H H') : L0At H' p rs := by
  obtain ⟨ps, h1, h2⟩ := h
  exact ⟨ps, s _ _ h1, h2.mono fun a r k => R0At.same k s⟩
theorem RAt.same {H H' : Hp} {p : Addr} {r : Rw} (h : RAt H p r) (s : Same H H') : RAt H' p r := by
  cases r with
  | flat r => exact R0At.same h s
  | iff a b c rs => obtain ⟨q, t, rl, h1, h2, h3, h4⟩ := h; exact ⟨q, t, rl, s _ _ h1, s _ _ h2, s _ _ h3, h4.same s⟩
theorem LAt.same {H H' : Hp} {p : Addr} {rs : List Rw} (h : LAt H p rs) (s : Same H H') : LAt H' p rs := by
  obtain ⟨ps, h1, h2⟩ := h
  exact ⟨ps, s _ _ h1, h2.mono fun a r k => RAt.same k s⟩
/-- a new list of made rows -/
theorem L0At.new {H : Hp} {D : Addr} {ps : List Addr} {rs : List Rw0} (hD : H D = none) (h : Ats (R0At H) ps rs) : L0At (upd H D (.lst (ps.map V.ref))) D rs :=
  ⟨ps, upd_same, h.mono fun a r k => R0At.same k (same_new hD)⟩
theorem LAt.new {H : Hp} {D : Addr} {ps : List Addr} {rs : List Rw} (hD : H D = none) (h : Ats (RAt H) ps rs) : LAt (upd H D (.lst (ps.map V.ref))) D rs :=
  ⟨ps, upd_same, h.mono fun a r k => RAt.same k (same_new hD)⟩
/-! ### the right rows -/
def tgS (m z : Str) (n : Nat) : Rw0 := .tag "set" m (tmsOf z n)
def tgW (m z : Str) (n : Nat) : Rw0 := .tag "wrap" m (tmsOf z n)
def rightR (kd : Str) : List Rw :=
  if kd = "note" then [.iff "own" "is" "keep" [.one "no"], .iff "many" "is" "keep" [tgW "a" "next - many" 2, .sea "b" "a", tgS "many" "many - b" 2], .iff "own" "is" "0" [tgS "mark" "next" 1], .flat (.two "write" "next"),
    .flat (tgW "next" "next + 1" 2), .flat (tgS "many" "many + 1" 2), .flat (tgS "own" "own + 1" 2), .flat (tgS "more" "0" 1)]
  else if kd = "fail" then [.flat (tgS "many" "many - own" 2), .flat (.tim "back" (tmsOf "own" 1)), .flat (tgS "own" "0" 1), .flat (tgS "mark" "next" 1)]
  else if kd = "undo" then [.iff "many" "is" "0" [.one "no"], .flat (tgW "a" "next - 1" 2), .flat (.sea "b" "a"), .flat (.tim "back" (tmsOf "b" 1)), .flat (tgS "many" "many - b" 2), .flat (tgS "more" "more + b" 2), .flat (tgS "mark" "next" 1)]
  else [.iff "more" "is" "0" [.one "no"], .flat (.sea "b" "next"), .flat (.tim "again" (tmsOf "b" 1)), .flat (tgS "many" "many + b" 2), .flat (tgS "more" "more - b" 2), .flat (tgS "mark" "next" 1)]
abbrev sRight : Stmt := top 107
theorem scRight : FnScope ["_law_kind", "_law_drop", "_law_found"] ["_law_kind"] (defScope sRight) := ⟨rfl, rfl, rfl, by decide +kernel, rfl, by decide +kernel, by decide +kernel⟩
def spRight : Sp := fun vs H Q _ => ∃ kd : Str, vs = [.str kd] ∧ kd ∈ kindsB ∧ ∀ (a : Addr) (H' : Hp), Same H H' → LAt H' a (rightR kd) → Q (.ref a) H'
structure FSet (K : PySem.W.Frag) (mg : Str → Option Value) (f : Addr) (d : FuncData) : Prop where
  u : Fun K "_law_set" "_law_set" sSet f d
  b : Binds K d ["_law_name", "_law_text_here"] []
  g : mg "_law_set" = some (.ref f)
structure FWrap (K : PySem.W.Frag) (mg : Str → Option Value) (f : Addr) (d : FuncData) : Prop where
  u : Fun K "_law_wrap" "_law_wrap" sWrap f d
  b : Binds K d ["_law_name", "_law_text_here"] []
  g : mg "_law_wrap" = some (.ref f)
structure FIf (K : PySem.W.Frag) (mg : Str → Option Value) (f : Addr) (d : FuncData) : Prop where
  u : Fun K "_law_if" "_law_if" sIf f d
  b : Binds K d ["_law_one", "_law_sign", "_law_other", "_law_rows"] []
  g : mg "_law_if" = some (.ref f)
theorem te1 {z w : Str} (l : z.length ≤ 1000) (h : Txt.split z " " = [w]) : TeOk z 1 := ⟨l, by rw [h]; exact ⟨by decide, by decide, (show Builtin.Range.small 0 ((1 : Nat) : Int) 2 = true by decide), (show Builtin.Range.rangeSize 0 ((1 : Nat) : Int) 2 = ((1 : Nat) : Int) by decide)⟩, by rw [h]; intro i hi; show 2 * i < 1; omega, by decide⟩
theorem te2 {z w x y : Str} (l : z.length ≤ 1000) (h : Txt.split z " " = [w, x, y]) : TeOk z 2 := ⟨l, by rw [h]; exact ⟨by decide, by decide, (show Builtin.Range.small 0 ((3 : Nat) : Int) 2 = true by decide), (show Builtin.Range.rangeSize 0 ((3 : Nat) : Int) 2 = ((2 : Nat) : Int) by decide)⟩, by rw [h]; intro i hi; show 2 * i < 3; omega, by decide⟩
theorem te_next : TeOk "next" 1 := te1 (w := "next") (by decide +kernel) (by decide +kernel)
theorem te_0 : TeOk "0" 1 := te1 (w := "0") (by decide +kernel) (by decide +kernel)
theorem te_own : TeOk "own" 1 := te1 (w := "own") (by decide +kernel) (by decide +kernel)
theorem te_b : TeOk "b" 1 := te1 (w := "b") (by decide +kernel) (by decide +kernel)
theorem te_nextMmany : TeOk "next - many" 2 := te2 (w := "next") (x := "-") (y := "many") (by decide +kernel) (by decide +kernel)
theorem te_manyMb : TeOk "many - b" 2 := te2 (w := "many") (x := "-") (y := "b") (by decide +kernel) (by decide +kernel)
theorem te_nextP1 : TeOk "next + 1" 2 := te2 (w := "next") (x := "+") (y := "1") (by decide +kernel) (by decide +kernel)
theorem te_manyP1 : TeOk "many + 1" 2 := te2 (w := "many") (x := "+") (y := "1") (by decide +kernel) (by decide +kernel)
theorem te_ownP1 : TeOk "own + 1" 2 := te2 (w := "own") (x := "+") (y := "1") (by decide +kernel) (by decide +kernel)
theorem te_manyMown : TeOk "many - own" 2 := te2 (w := "many") (x := "-") (y := "own") (by decide +kernel) (by decide +kernel)
theorem te_nextM1 : TeOk "next - 1" 2 := te2 (w := "next") (x := "-") (y := "1") (by decide +kernel) (by decide +kernel)
theorem te_morePb : TeOk "more + b" 2 := te2 (w := "more") (x := "+") (y := "b") (by decide +kernel) (by decide +kernel)
theorem te_manyPb : TeOk "many + b" 2 := te2 (w := "many") (x := "+") (y := "b") (by decide +kernel) (by decide +kernel)
theorem te_moreMb : TeOk "more - b" 2 := te2 (w := "more") (x := "-") (y := "b") (by decide +kernel) (by decide +kernel)
end IdL
namespace IdL
open PySem L2 TL
theorem kne {a b : Str} (h : ¬ a = b) : ¬ V.str a = V.str b := fun y => h (by injection y)
section
variable {P : Program} {w : World} {K : PySem.W.Frag} {mg : Str → Option Value} {base : Heap}
theorem ok_right {f fS fW fI fT : Addr} {fd dS dW dI dT : FuncData} (F : Fun K "_law_right" "_law_right" sRight f fd) (SE : FSet K mg fS dS) (WR : FWrap K mg fW dW) (IF : FIf K mg fI dI) (TE : FTe K mg fT dT)
    (OS : FnOk P w K mg base CX0 2 fS dS ["_law_name", "_law_text_here"] (spTag "set")) (OW : FnOk P w K mg base CX0 2 fW dW ["_law_name", "_law_text_here"] (spTag "wrap")) (OI : FnOk P w K mg base CX0 1 fI dI ["_law_one", "_law_sign", "_law_other", "_law_rows"] spIf) (OT : FnOk P w K mg base CX0 1 fT dT ["_law_text_here"] spTe) :
    FnOk P w K mg base CX0 3 f fd ["_law_kind"] spRight := by
  refine F.ok scRight (fun vs H Q E h => ?_) (fun cdv A outer s H vs Q E hr h => ?_)
  · obtain ⟨kd, rfl, _⟩ := h
    rfl
  · obtain ⟨kd, rfl, hk, k⟩ := h
    have hr1 := hr.mono (show 1 ≤ 2 by decide)
    refine ⟨_, (pss_cons (ps_if (pt_cmpR op_eq (pv 0) pe_str (nomark _)) (pss_cons (ps_set (i := 1) scRight.nd rfl (.inl rfl) (pe_lst (pa_cons (pe_call OW hr rfl WR.g WR.u.kp WR.b .nil pass0 (pa_cons pe_str (pa_cons pe_str pa_nil))) (pa_cons (pe_tup (pa_cons pe_str (pa_cons pe_str (pa_cons pe_str pa_nil)))) (pa_cons (pe_call OS hr rfl SE.g SE.u.kp SE.b .nil pass0 (pa_cons pe_str (pa_cons pe_str pa_nil))) pa_nil)))))
 (pss_cons (ps_set (i := 2) scRight.nd rfl (.inl rfl) (pe_lst (pa_cons (pe_call OI hr1 rfl IF.g IF.u.kp IF.b .nil pass0 (pa_cons pe_str (pa_cons pe_str (pa_cons pe_str (pa_cons (pe_lst (pa_cons (pe_tup (pa_cons pe_str pa_nil)) pa_nil)) pa_nil))))) (pa_cons (pe_call OI hr1 rfl IF.g IF.u.kp IF.b .nil pass0 (pa_cons pe_str (pa_cons pe_str (pa_cons pe_str (pa_cons (pv 1) pa_nil))))) pa_nil))))
 (pss_cons (ps_set (i := 2) scRight.nd rfl (.inl rfl) (pe_op op_cat (pv 2) (pe_lst (pa_cons (pe_call OI hr1 rfl IF.g IF.u.kp IF.b .nil pass0 (pa_cons pe_str (pa_cons pe_str (pa_cons pe_str (pa_cons (pe_lst (pa_cons (pe_call OS hr rfl SE.g SE.u.kp SE.b .nil pass0 (pa_cons pe_str (pa_cons pe_str pa_nil))) pa_nil)) pa_nil))))) (pa_cons (pe_tup (pa_cons pe_str (pa_cons pe_str pa_nil))) pa_nil)))))
 (pss_cons (ps_set (i := 2) scRight.nd rfl (.inl rfl) (pe_op op_cat (pv 2) (pe_lst (pa_cons (pe_call OW hr rfl WR.g WR.u.kp WR.b .nil pass0 (pa_cons pe_str (pa_cons pe_str pa_nil))) (pa_cons (pe_call OS hr rfl SE.g SE.u.kp SE.b .nil pass0 (pa_cons pe_str (pa_cons pe_str pa_nil))) (pa_cons (pe_call OS hr rfl SE.g SE.u.kp SE.b .nil pass0 (pa_cons pe_str (pa_cons pe_str pa_nil))) pa_nil))))))
 (pss_one (ps_ret (pe_op op_cat (pv 2) (pe_lst (pa_cons (pe_call OS hr rfl SE.g SE.u.kp SE.b .nil pass0 (pa_cons pe_str (pa_cons pe_str pa_nil))) pa_nil))))))))) pss_nil)
 (pss_cons (ps_if (pt_cmpR op_eq (pv 0) pe_str (nomark _)) (pss_cons (ps_set (i := 2) scRight.nd rfl (.inl rfl) (pe_lst (pa_cons (pe_call OS hr rfl SE.g SE.u.kp SE.b .nil pass0 (pa_cons pe_str (pa_cons pe_str pa_nil))) (pa_cons (pe_tup (pa_cons pe_str (pa_cons (pe_call OT hr1 rfl TE.g TE.u.kp TE.b .nil pass0 (pa_cons pe_str pa_nil)) (pa_cons pe_non pa_nil)))) (pa_cons (pe_call OS hr rfl SE.g SE.u.kp SE.b .nil pass0 (pa_cons pe_str (pa_cons pe_str pa_nil))) pa_nil)))))
 (pss_one (ps_ret (pe_op op_cat (pv 2) (pe_lst (pa_cons (pe_call OS hr rfl SE.g SE.u.kp SE.b .nil pass0 (pa_cons pe_str (pa_cons pe_str pa_nil))) pa_nil)))))) pss_nil)
 (pss_cons (ps_if (pt_cmpR op_eq (pv 0) pe_str (nomark _)) (pss_cons (ps_set (i := 2) scRight.nd rfl (.inl rfl) (pe_lst (pa_cons (pe_call OI hr1 rfl IF.g IF.u.kp IF.b .nil pass0 (pa_cons pe_str (pa_cons pe_str (pa_cons pe_str (pa_cons (pe_lst (pa_cons (pe_tup (pa_cons pe_str pa_nil)) pa_nil)) pa_nil))))) (pa_cons (pe_call OW hr rfl WR.g WR.u.kp WR.b .nil pass0 (pa_cons pe_str (pa_cons pe_str pa_nil))) (pa_cons (pe_tup (pa_cons pe_str (pa_cons pe_str (pa_cons pe_str pa_nil)))) pa_nil)))))
 (pss_cons (ps_set (i := 2) scRight.nd rfl (.inl rfl) (pe_op op_cat (pv 2) (pe_lst (pa_cons (pe_tup (pa_cons pe_str (pa_cons (pe_call OT hr1 rfl TE.g TE.u.kp TE.b .nil pass0 (pa_cons pe_str pa_nil)) (pa_cons pe_non pa_nil)))) (pa_cons (pe_call OS hr rfl SE.g SE.u.kp SE.b .nil pass0 (pa_cons pe_str (pa_cons pe_str pa_nil))) (pa_cons (pe_call OS hr rfl SE.g SE.u.kp SE.b .nil pass0 (pa_cons pe_str (pa_cons pe_str pa_nil))) pa_nil))))))
 (pss_one (ps_ret (pe_op op_cat (pv 2) (pe_lst (pa_cons (pe_call OS hr rfl SE.g SE.u.kp SE.b .nil pass0 (pa_cons pe_str (pa_cons pe_str pa_nil))) pa_nil))))))) pss_nil)
 (pss_cons (ps_set (i := 2) scRight.nd rfl (.inl rfl) (pe_lst (pa_cons (pe_call OI hr1 rfl IF.g IF.u.kp IF.b .nil pass0 (pa_cons pe_str (pa_cons pe_str (pa_cons pe_str (pa_cons (pe_lst (pa_cons (pe_tup (pa_cons pe_str pa_nil)) pa_nil)) pa_nil))))) (pa_cons (pe_tup (pa_cons pe_str (pa_cons pe_str (pa_cons pe_str pa_nil)))) (pa_cons (pe_tup (pa_cons pe_str (pa_cons (pe_call OT hr1 rfl TE.g TE.u.kp TE.b .nil pass0 (pa_cons pe_str pa_nil)) (pa_cons pe_non pa_nil)))) pa_nil)))))
 (pss_one (ps_ret (pe_op op_cat (pv 2) (pe_lst (pa_cons (pe_call OS hr rfl SE.g SE.u.kp SE.b .nil pass0 (pa_cons pe_str (pa_cons pe_str pa_nil))) (pa_cons (pe_call OS hr rfl SE.g SE.u.kp SE.b .nil pass0 (pa_cons pe_str (pa_cons pe_str pa_nil))) (pa_cons (pe_call OS hr rfl SE.g SE.u.kp SE.b .nil pass0 (pa_cons pe_str (pa_cons pe_str pa_nil))) pa_nil))))))))))), ?_⟩
    have l1 : 1 ≤ sizeLine := by decide
    have l2 : 2 ≤ sizeLine := by decide
    have l3 : 3 ≤ sizeLine := by decide
    have hk : kd ∈ (["note", "fail", "undo", "redo"] : List Str) := hk
    simp only [List.mem_cons, List.not_mem_nil, or_false] at hk
    rcases hk with rfl | rfl | rfl | rfl
    · refine ⟨_, rfl, rfl, _, rfl, iteY rfl ?_⟩
      -- drop
      refine ⟨"a", "next - many", 2, rfl, te_nextMmany, fun d1 a1 G1 s1 h1 t1 => ?_⟩
      have e1 : R0At G1 d1 (tgW "a" "next - many" 2) := ⟨a1, h1, t1⟩
      refine ⟨l3, fun d2 hd2 => ?_⟩
      have s2 : Same G1 _ := same_new (o := .tup [.str "sealed", .str "b", .str "a"]) hd2
      have e2 : R0At (upd G1 d2 (.tup [.str "sealed", .str "b", .str "a"])) d2 (.sea "b" "a") := upd_same
      refine ⟨"many", "many - b", 2, rfl, te_manyMb, fun d3 a3 G3 s3 h3 t3 => ⟨l3, fun D hD => ?_⟩⟩
      have e3 : R0At G3 d3 (tgS "many" "many - b" 2) := ⟨a3, h3, t3⟩
      have s4 : Same G3 _ := same_new (o := .lst [.ref d1, .ref d2, .ref d3]) hD
      have hd : L0At _ D [tgW "a" "next - many" 2, .sea "b" "a", tgS "many" "many - b" 2] := L0At.new hD (ps := [d1, d2, d3]) (.cons (e1.same (s2.trans s3)) (.cons (e2.same s3) (.cons e3 .nil)))
      have s04 := ((s1.trans s2).trans s3).trans s4
      -- the first two
      refine ⟨l1, fun o0 ho0 => ⟨l1, fun rl hrl => ⟨"own", "is", "keep", rl, rfl, fun p1 q1 w1 G5 s5 h1 h2 h3 => ?_⟩⟩⟩
      have sa : Same _ _ := same_new (o := .tup [.str "no"]) ho0
      have sb : Same _ _ := same_new (o := .lst [.ref o0]) hrl
      have r1 : RAt G5 p1 (.iff "own" "is" "keep" [.one "no"]) := ⟨q1, w1, rl, h1, h2, h3, [o0], s5 _ _ upd_same, .cons (s5 _ _ (sb _ _ upd_same)) .nil⟩
      have s45 := (sa.trans sb).trans s5
      refine ⟨_, rfl, "many", "is", "keep", D, rfl, fun p2 q2 w2 G6 s6 h1 h2 h3 => ⟨l2, fun L hL => ?_⟩⟩
      have r2 : RAt G6 p2 (.iff "many" "is" "keep" [tgW "a" "next - many" 2, .sea "b" "a", tgS "many" "many - b" 2]) := ⟨q2, w2, D, h1, h2, h3, hd.same (s45.trans s6)⟩
      have sL : Same G6 _ := same_new (o := .lst [.ref p1, .ref p2]) hL
      have rs : Ats (RAt _) [p1, p2] [.iff "own" "is" "keep" [.one "no"], .iff "many" "is" "keep" [tgW "a" "next - many" 2, .sea "b" "a", tgS "many" "many - b" 2]] := .cons (r1.same (s6.trans sL)) (.cons (r2.same sL) .nil)
      have s0L := s04.trans ((s45.trans s6).trans sL)
      -- two more
      refine ⟨_, rfl, "mark", "next", 1, rfl, te_next, fun b1 a7 G7 s7 h7 t7 => ⟨l1, fun rl2 hrl2 => ⟨"own", "is", "0", rl2, rfl, fun p3 q3 w3 G8 s8 h1 h2 h3 => ?_⟩⟩⟩
      have f1 : R0At G7 b1 (tgS "mark" "next" 1) := ⟨a7, h7, t7⟩
      have sc : Same _ _ := same_new (o := .lst [.ref b1]) hrl2
      have hl2 : L0At _ rl2 [tgS "mark" "next" 1] := L0At.new hrl2 (ps := [b1]) (.cons f1 .nil)
      have r3 : RAt G8 p3 (.iff "own" "is" "0" [tgS "mark" "next" 1]) := ⟨q3, w3, rl2, h1, h2, h3, hl2.same s8⟩
      have s78 := (s7.trans sc).trans s8
      refine ⟨l2, fun p4 hp4 => ?_⟩
      have s9 : Same G8 _ := same_new (o := .tup [.str "write", .str "next"]) hp4
      have r4 : RAt _ p4 (.flat (.two "write" "next")) := show R0At (upd G8 p4 (.tup [.str "write", .str "next"])) p4 (.two "write" "next") from upd_same
      refine ⟨l2, fun L2 hL2 => ?_⟩
      have s10 : Same _ _ := same_new (o := .lst [.ref p3, .ref p4]) hL2
      have s70 := s78.trans (s9.trans s10)
      refine ⟨L, L2, _, _, rfl, rfl, s70 _ _ upd_same, upd_same, (by show 4 ≤ sizeLine; decide), fun m hm => ?_⟩
      have s11 : Same _ _ := same_new (o := .lst [.ref p1, .ref p2, .ref p3, .ref p4]) hm
      have rt : Ats (RAt _) [p1, p2, p3, p4] [.iff "own" "is" "keep" [.one "no"], .iff "many" "is" "keep" [tgW "a" "next - many" 2, .sea "b" "a", tgS "many" "many - b" 2], .iff "own" "is" "0" [tgS "mark" "next" 1], .flat (.two "write" "next")] :=
        Ats.app (rs.mono fun a r h => h.same (s70.trans s11)) (.cons (r3.same (s9.trans (s10.trans s11))) (.cons (r4.same (s10.trans s11)) .nil))
      have s0m := s0L.trans (s70.trans s11)
      -- three more
      refine ⟨_, rfl, "next", "next + 1", 2, rfl, te_nextP1, fun p5 a12 G12 s12 h12 t12 => ?_⟩
      have r5 : RAt G12 p5 (.flat (tgW "next" "next + 1" 2)) := ⟨a12, h12, t12⟩
      refine ⟨"many", "many + 1", 2, rfl, te_manyP1, fun p6 a13 G13 s13 h13 t13 => ?_⟩
      have r6 : RAt G13 p6 (.flat (tgS "many" "many + 1" 2)) := ⟨a13, h13, t13⟩
      refine ⟨"own", "own + 1", 2, rfl, te_ownP1, fun p7 a14 G14 s14 h14 t14 => ⟨l3, fun L3 hL3 => ?_⟩⟩
      have r7 : RAt G14 p7 (.flat (tgS "own" "own + 1" 2)) := ⟨a14, h14, t14⟩
      have s15 : Same G14 _ := same_new (o := .lst [.ref p5, .ref p6, .ref p7]) hL3
      have s125 := ((s12.trans s13).trans s14).trans s15
      refine ⟨m, L3, _, _, rfl, rfl, s125 _ _ upd_same, upd_same, (by show 7 ≤ sizeLine; decide), fun m2 hm2 => ?_⟩
      have s16 : Same _ _ := same_new (o := .lst [.ref p1, .ref p2, .ref p3, .ref p4, .ref p5, .ref p6, .ref p7]) hm2
      have s156 := s15.trans s16
      have ru : Ats (RAt _) [p1, p2, p3, p4, p5, p6, p7] [.iff "own" "is" "keep" [.one "no"], .iff "many" "is" "keep" [tgW "a" "next - many" 2, .sea "b" "a", tgS "many" "many - b" 2], .iff "own" "is" "0" [tgS "mark" "next" 1], .flat (.two "write" "next"), .flat (tgW "next" "next + 1" 2), .flat (tgS "many" "many + 1" 2), .flat (tgS "own" "own + 1" 2)] :=
        Ats.app (rt.mono fun a r h => h.same (s125.trans s16)) (.cons (r5.same ((s13.trans s14).trans s156)) (.cons (r6.same (s14.trans s156)) (.cons (r7.same s156) .nil)))
      have s0m2 := s0m.trans (s125.trans s16)
      -- the last
      refine ⟨_, rfl, "more", "0", 1, rfl, te_0, fun p8 a17 G17 s17 h17 t17 => ⟨l1, fun L4 hL4 => ?_⟩⟩
      have r8 : RAt G17 p8 (.flat (tgS "more" "0" 1)) := ⟨a17, h17, t17⟩
      have s18 : Same G17 _ := same_new (o := .lst [.ref p8]) hL4
      refine ⟨m2, L4, _, _, rfl, rfl, s18 _ _ (s17 _ _ upd_same), upd_same, (by show 8 ≤ sizeLine; decide), fun m3 hm3 => ?_⟩
      have s19 : Same _ _ := same_new (o := .lst [.ref p1, .ref p2, .ref p3, .ref p4, .ref p5, .ref p6, .ref p7, .ref p8]) hm3
      refine k m3 _ (s0m2.trans (s17.trans (s18.trans s19))) ⟨[p1, p2, p3, p4, p5, p6, p7, p8], upd_same, ?_⟩
      exact Ats.app (ru.mono fun a r h => h.same (s17.trans (s18.trans s19))) (.cons (r8.same (s18.trans s19)) .nil)
    · refine ⟨_, rfl, rfl, _, rfl, iteN (kne (by decide +kernel)) ?_⟩
      refine ⟨_, rfl, rfl, _, rfl, iteY rfl ?_⟩
      refine ⟨"many", "many - own", 2, rfl, te_manyMown, fun p1 a1 G1 s1 h1 t1 => ?_⟩
      have r1 : RAt G1 p1 (.flat (tgS "many" "many - own" 2)) := ⟨a1, h1, t1⟩
      refine ⟨"own", 1, rfl, te_own.l, te_own.r, te_own.w, te_own.f, fun a2 G2 _ s2 t2 => ⟨l3, fun p2 hp2 => ?_⟩⟩
      have s2b : Same G2 _ := same_new (o := .tup [.str "back", .ref a2, .non]) hp2
      have r2 : RAt _ p2 (.flat (.tim "back" (tmsOf "own" 1))) := ⟨a2, upd_same, t2.same s2b⟩
      refine ⟨"own", "0", 1, rfl, te_0, fun p3 a3 G3 s3 h3 t3 => ⟨l3, fun L hL => ?_⟩⟩
      have r3 : RAt G3 p3 (.flat (tgS "own" "0" 1)) := ⟨a3, h3, t3⟩
      have rs : Ats (RAt G3) [p1, p2, p3] [.flat (tgS "many" "many - own" 2), .flat (.tim "back" (tmsOf "own" 1)), .flat (tgS "own" "0" 1)] := .cons (r1.same ((s2.trans s2b).trans s3)) (.cons (r2.same s3) (.cons r3 .nil))
      have s4 : Same G3 _ := same_new (o := .lst [.ref p1, .ref p2, .ref p3]) hL
      refine ⟨_, rfl, "mark", "next", 1, rfl, te_next, fun p4 a4 G4 s5 h4 t4 => ⟨l1, fun L2 hL2 => ?_⟩⟩
      have r4 : RAt G4 p4 (.flat (tgS "mark" "next" 1)) := ⟨a4, h4, t4⟩
      have s6 : Same G4 _ := same_new (o := .lst [.ref p4]) hL2
      refine ⟨L, L2, _, _, rfl, rfl, s6 _ _ (s5 _ _ upd_same), upd_same, (by show 4 ≤ sizeLine; decide), fun m hm => ?_⟩
      have s7 : Same _ _ := same_new (o := .lst [.ref p1, .ref p2, .ref p3, .ref p4]) hm
      refine k m _ ((((((s1.trans s2).trans s2b).trans s3).trans s4).trans s5).trans (s6.trans s7)) ⟨[p1, p2, p3, p4], upd_same, ?_⟩
      exact Ats.app (rs.mono fun a r h => h.same (s4.trans (s5.trans (s6.trans s7)))) (.cons (r4.same (s6.trans s7)) .nil)
    · refine ⟨_, rfl, rfl, _, rfl, iteN (kne (by decide +kernel)) ?_⟩
      refine ⟨_, rfl, rfl, _, rfl, iteN (kne (by decide +kernel)) ?_⟩
      refine ⟨_, rfl, rfl, _, rfl, iteY rfl ?_⟩
      refine ⟨l1, fun o0 ho0 => ⟨l1, fun rl hrl => ⟨"many", "is", "0", rl, rfl, fun p1 q1 w1 G1 s1 h1 h2 h3 => ?_⟩⟩⟩
      have sa : Same H _ := same_new (o := .tup [.str "no"]) ho0
      have sb : Same _ _ := same_new (o := .lst [.ref o0]) hrl
      have r1 : RAt G1 p1 (.iff "many" "is" "0" [.one "no"]) := ⟨q1, w1, rl, h1, h2, h3, [o0], s1 _ _ upd_same, .cons (s1 _ _ (sb _ _ upd_same)) .nil⟩
      refine ⟨"a", "next - 1", 2, rfl, te_nextM1, fun p2 a2 G2 s2 h2 t2 => ?_⟩
      have r2 : RAt G2 p2 (.flat (tgW "a" "next - 1" 2)) := ⟨a2, h2, t2⟩
      refine ⟨l3, fun p3 hp3 => ?_⟩
      have s3 : Same G2 _ := same_new (o := .tup [.str "sealed", .str "b", .str "a"]) hp3
      have r3 : RAt _ p3 (.flat (.sea "b" "a")) := show R0At (upd G2 p3 (.tup [.str "sealed", .str "b", .str "a"])) p3 (.sea "b" "a") from upd_same
      refine ⟨l3, fun L hL => ?_⟩
      have s4 : Same _ _ := same_new (o := .lst [.ref p1, .ref p2, .ref p3]) hL
      have rs : Ats (RAt _) [p1, p2, p3] [.iff "many" "is" "0" [.one "no"], .flat (tgW "a" "next - 1" 2), .flat (.sea "b" "a")] := .cons (r1.same (s2.trans s3)) (.cons (r2.same s3) (.cons r3 .nil))
      refine ⟨_, rfl, "b", 1, rfl, te_b.l, te_b.r, te_b.w, te_b.f, fun a4 G4 _ s5 t4 => ⟨l3, fun p4 hp4 => ?_⟩⟩
      have s5b : Same G4 _ := same_new (o := .tup [.str "back", .ref a4, .non]) hp4
      have r4 : RAt _ p4 (.flat (.tim "back" (tmsOf "b" 1))) := ⟨a4, upd_same, t4.same s5b⟩
      refine ⟨"many", "many - b", 2, rfl, te_manyMb, fun p5 a5 G5 s6 h5 t5 => ?_⟩
      have r5 : RAt G5 p5 (.flat (tgS "many" "many - b" 2)) := ⟨a5, h5, t5⟩
      refine ⟨"more", "more + b", 2, rfl, te_morePb, fun p6 a6 G6 s7 h6 t6 => ⟨l3, fun L2 hL2 => ?_⟩⟩
      have r6 : RAt G6 p6 (.flat (tgS "more" "more + b" 2)) := ⟨a6, h6, t6⟩
      have s8 : Same G6 _ := same_new (o := .lst [.ref p4, .ref p5, .ref p6]) hL2
      have s57 := ((s5.trans s5b).trans s6).trans s7
      refine ⟨L, L2, _, _, rfl, rfl, s8 _ _ (s57 _ _ upd_same), upd_same, (by show 6 ≤ sizeLine; decide), fun m hm => ?_⟩
      have s9 : Same _ _ := same_new (o := .lst [.ref p1, .ref p2, .ref p3, .ref p4, .ref p5, .ref p6]) hm
      have s89 := s8.trans s9
      have rt : Ats (RAt _) [p1, p2, p3, p4, p5, p6] [.iff "many" "is" "0" [.one "no"], .flat (tgW "a" "next - 1" 2), .flat (.sea "b" "a"), .flat (.tim "back" (tmsOf "b" 1)), .flat (tgS "many" "many - b" 2), .flat (tgS "more" "more + b" 2)] :=
        Ats.app (rs.mono fun a r h => h.same (s4.trans (s57.trans s89))) (.cons (r4.same ((s6.trans s7).trans s89)) (.cons (r5.same (s7.trans s89)) (.cons (r6.same s89) .nil)))
      have s09 := (((((sa.trans sb).trans s1).trans s2).trans s3).trans s4).trans (s57.trans s89)
      refine ⟨_, rfl, "mark", "next", 1, rfl, te_next, fun p7 a7 G7 s10 h7 t7 => ⟨l1, fun L3 hL3 => ?_⟩⟩
      have r7 : RAt G7 p7 (.flat (tgS "mark" "next" 1)) := ⟨a7, h7, t7⟩
      have s11 : Same G7 _ := same_new (o := .lst [.ref p7]) hL3
      refine ⟨m, L3, _, _, rfl, rfl, s11 _ _ (s10 _ _ upd_same), upd_same, (by show 7 ≤ sizeLine; decide), fun m2 hm2 => ?_⟩
      have s12 : Same _ _ := same_new (o := .lst [.ref p1, .ref p2, .ref p3, .ref p4, .ref p5, .ref p6, .ref p7]) hm2
      refine k m2 _ (s09.trans (s10.trans (s11.trans s12))) ⟨[p1, p2, p3, p4, p5, p6, p7], upd_same, ?_⟩
      exact Ats.app (rt.mono fun a r h => h.same (s10.trans (s11.trans s12))) (.cons (r7.same (s11.trans s12)) .nil)
    · refine ⟨_, rfl, rfl, _, rfl, iteN (kne (by decide +kernel)) ?_⟩
      refine ⟨_, rfl, rfl, _, rfl, iteN (kne (by decide +kernel)) ?_⟩
      refine ⟨_, rfl, rfl, _, rfl, iteN (kne (by decide +kernel)) ?_⟩
      refine ⟨l1, fun o0 ho0 => ⟨l1, fun rl hrl => ⟨"more", "is", "0", rl, rfl, fun p1 q1 w1 G1 s1 h1 h2 h3 => ?_⟩⟩⟩
      have sa : Same H _ := same_new (o := .tup [.str "no"]) ho0
      have sb : Same _ _ := same_new (o := .lst [.ref o0]) hrl
      have r1 : RAt G1 p1 (.iff "more" "is" "0" [.one "no"]) := ⟨q1, w1, rl, h1, h2, h3, [o0], s1 _ _ upd_same, .cons (s1 _ _ (sb _ _ upd_same)) .nil⟩
      refine ⟨l3, fun p2 hp2 => ?_⟩
      have s2 : Same G1 _ := same_new (o := .tup [.str "sealed", .str "b", .str "next"]) hp2
      have r2 : RAt _ p2 (.flat (.sea "b" "next")) := show R0At (upd G1 p2 (.tup [.str "sealed", .str "b", .str "next"])) p2 (.sea "b" "next") from upd_same
      refine ⟨"b", 1, rfl, te_b.l, te_b.r, te_b.w, te_b.f, fun a3 G3 _ s3 t3 => ⟨l3, fun p3 hp3 => ?_⟩⟩
      have s3b : Same G3 _ := same_new (o := .tup [.str "again", .ref a3, .non]) hp3
      have r3 : RAt _ p3 (.flat (.tim "again" (tmsOf "b" 1))) := ⟨a3, upd_same, t3.same s3b⟩
      refine ⟨l3, fun L hL => ?_⟩
      have s4 : Same _ _ := same_new (o := .lst [.ref p1, .ref p2, .ref p3]) hL
      have rs : Ats (RAt _) [p1, p2, p3] [.iff "more" "is" "0" [.one "no"], .flat (.sea "b" "next"), .flat (.tim "again" (tmsOf "b" 1))] := .cons (r1.same ((s2.trans s3).trans s3b)) (.cons (r2.same (s3.trans s3b)) (.cons r3 .nil))
      refine ⟨_, rfl, "many", "many + b", 2, rfl, te_manyPb, fun p4 a4 G4 s5 h4 t4 => ?_⟩
      have r4 : RAt G4 p4 (.flat (tgS "many" "many + b" 2)) := ⟨a4, h4, t4⟩
      refine ⟨"more", "more - b", 2, rfl, te_moreMb, fun p5 a5 G5 s6 h5 t5 => ?_⟩
      have r5 : RAt G5 p5 (.flat (tgS "more" "more - b" 2)) := ⟨a5, h5, t5⟩
      refine ⟨"mark", "next", 1, rfl, te_next, fun p6 a6 G6 s7 h6 t6 => ⟨l3, fun L2 hL2 => ?_⟩⟩
      have r6 : RAt G6 p6 (.flat (tgS "mark" "next" 1)) := ⟨a6, h6, t6⟩
      have s8 : Same G6 _ := same_new (o := .lst [.ref p4, .ref p5, .ref p6]) hL2
      have s57 := (s5.trans s6).trans s7
      refine ⟨L, L2, _, _, rfl, rfl, s8 _ _ (s57 _ _ upd_same), upd_same, (by show 6 ≤ sizeLine; decide), fun m hm => ?_⟩
      have s9 : Same _ _ := same_new (o := .lst [.ref p1, .ref p2, .ref p3, .ref p4, .ref p5, .ref p6]) hm
      refine k m _ (((((((sa.trans sb).trans s1).trans s2).trans s3).trans s3b).trans s4).trans (s57.trans (s8.trans s9))) ⟨[p1, p2, p3, p4, p5, p6], upd_same, ?_⟩
      exact Ats.app (rs.mono fun a r h => h.same (s4.trans (s57.trans (s8.trans s9)))) (.cons (r4.same ((s6.trans s7).trans (s8.trans s9))) (.cons (r5.same (s7.trans (s8.trans s9))) (.cons (r6.same (s8.trans s9)) .nil)))
end
end IdL
namespace IdL
open PySem L2 TL
/-! ### the lines of rows -/
def line0 : Rw0 → Str
  | .one a => Txt.join " " [a]
  | .two a b => Txt.join " " [a, b]
  | .tag t m ts => m ++ " = " ++ (if t = "wrap" then ("wrap " : Str) else ("" : Str)) ++ textS ts
  | .sea n q => n ++ " = sealed " ++ q
  | .tim t ts => t ++ (" " ++ textS ts ++ " times")
  | .til t g => t ++ (" until " ++ g)
def linesR : Rw → List Str
  | .flat r => [line0 r]
  | .iff a b c rs => ([("if " : Str) ++ Txt.join " and " [("" : Str) ++ Txt.join " " [a, b, c]]] : List Str) ++ rs.map line0 ++ (["end"] : List Str)
def linesL (rs : List Rw) : List Str := (rs.map linesR).flatten
def textL (rs : List Rw) : Str := Txt.join "\n" (linesL rs)
theorem rows_fail : linesL (rightR "fail") = (["many = many - own", "back own times", "own = 0", "mark = next"] : List Str) := by decide +kernel
def isOk : CodeR → Bool
  | .ok .. => true
  | _ => false
end IdL
namespace L2
open PySem PySem.Spec PyProof.Rows
/-- join, where the written part is said -/
def rJoin (K : PySem.W.Frag) : V → List V → Hp → VK → Prop := fun x xs H Q => ∃ a p, ∃ ys : List Str, x = .str a ∧ xs = [.ref p] ∧ (SqL K H p (ys.map V.str) ∨ SqT K H p (ys.map V.str)) ∧ (ys.map (·.length)).sum + ys.length * a.length ≤ 16777216 ∧ Q (.str (Txt.join a ys)) H
theorem pe_joinK {X : Cx} (K : PySem.W.Frag) {o e : Expr} {to te : TE} {apos pos : Pos} (hK : X.K = K) (ho : PE X o to) (he : PE X e te) (hs : starEach [e] X.env = [(false, eval e X.env)] := by rfl) (hbase : attributeBase o "join" X.env (eval o X.env) = eval o X.env := by rfl) (hline : (apos.endLine == pos.line) = true := by rfl) :
    PE X (.Call (.Attribute o "join" apos) [e] [] pos) (tM1 (rJoin K) to te) := by
  subst hK
  exact pe_join ho he hs hbase hline
end L2
namespace IdL
open PySem L2 TL
/-! ### the lines of rows, as the law makes them -/
abbrev sRL : Stmt := top 102
def NRL : List Str := ["_law_rows", "_law_found", "_law_row", "_law_wanted", "_law_one", "_law_sign", "_law_other", "_law_parts"]
theorem scRL : FnScope NRL ["_law_rows"] (defScope sRL) := ⟨rfl, rfl, rfl, by decide +kernel, rfl, by decide +kernel, by decide +kernel⟩
theorem lenA (x y : Str) : (x ++ y).length = x.length + y.length := by rw [len_tl, tl_append, List.length_append, ← len_tl, ← len_tl]
def fewB (ts : List Ts) : Bool := decide (ts ≠ []) && (decide (ts.length ≤ 10) && ts.all fun t => decide (t.2.length ≤ 40))
theorem few_of {ts : List Ts} (h : fewB ts = true) : FewT ts := by
  obtain ⟨h1, h2⟩ := and_t h
  obtain ⟨h2, h3⟩ := and_t h2
  exact ⟨of_decide_eq_true h1, of_decide_eq_true h2, fun t ht => of_decide_eq_true (List.all_eq_true.mp h3 t ht)⟩
def leB (z : Str) : Bool := decide (z.length ≤ 1000)
def fwd1 : List Str := ["set", "wrap"]
def fwd2 : List Str := ["back", "again"]
def plainW (z : Str) : Bool := decide (z ≠ "if") && (decide (z ∉ fwd1) && (decide (z ≠ "sealed") && decide (z ∉ fwd2)))
def okR0 : Rw0 → Bool
  | .one a => plainW a && leB a
  | .two a b => plainW a && (leB a && leB b)
  | .tag t m ts => decide (t ∈ fwd1) && (leB m && (fewB ts && leB (textS ts)))
  | .sea n q => leB n && leB q
  | .tim t ts => decide (t ∈ fwd2) && (leB t && (fewB ts && leB (textS ts)))
  | .til t g => decide (t ∈ fwd2) && (leB t && leB g)
def okR : Rw → Bool
  | .flat r => okR0 r
  | .iff a b c rs => leB a && (leB b && (leB c && (rs.all okR0 && decide (rs.length ≤ 20))))
def okL (rs : List Rw) : Bool := rs.all okR && decide (rs.length ≤ 30)
def flatB : Rw → Bool
  | .flat _ => true
  | _ => false
theorem linesL_snoc (rs : List Rw) (r : Rw) : linesL (rs ++ [r]) = linesL rs ++ linesR r := by
  unfold linesL
  rw [List.map_append, List.flatten_append]
  show _ ++ (linesR r ++ []) = _
  rw [List.append_nil]
theorem linesR_len {r : Rw} (h : okR r = true) : (linesR r).length ≤ 30 := by
  cases r with
  | flat r => exact Nat.le_of_lt (show 1 < 30 by decide)
  | iff a b c rs =>
    obtain ⟨_, h⟩ := and_t h
    obtain ⟨_, h⟩ := and_t h
    obtain ⟨_, h⟩ := and_t h
    obtain ⟨_, h⟩ := and_t h
    have h := of_decide_eq_true h
    show ((_ ++ List.map line0 rs) ++ _).length ≤ 30
    rw [List.length_append, List.length_append, List.length_map]
    show 1 + rs.length + 1 ≤ 30
    omega
theorem linesL_len : ∀ {rs : List Rw}, rs.all okR = true → (linesL rs).length ≤ 30 * rs.length
  | [], _ => Nat.le_refl _
  | r :: rs, h => by
    obtain ⟨h1, h2⟩ := and_t h
    have e := linesL_len h2
    have e1 := linesR_len h1
    show (linesR r ++ linesL rs).length ≤ 30 * (rs.length + 1)
    rw [List.length_append]; omega
theorem L0At.up {H : Hp} {a : Addr} {rs : List Rw0} (h : L0At H a rs) : LAt H a (rs.map .flat) := by
  obtain ⟨ps, h1, h2⟩ := h
  refine ⟨ps, h1, ?_⟩
  clear h1
  induction h2 with
  | nil => exact .nil
  | cons h _ ih => exact .cons h ih
theorem lines_up : ∀ rs : List Rw0, linesL (rs.map .flat) = rs.map line0
  | [] => rfl
  | r :: rs => by
    show linesR (.flat r) ++ linesL (rs.map .flat) = _
    rw [lines_up rs]; rfl
theorem ok_up : ∀ {rs : List Rw0}, rs.all okR0 = true → (rs.map Rw.flat).all okR = true
  | [], _ => rfl
  | r :: rs, h => by
    obtain ⟨h1, h2⟩ := and_t h
    exact Bool.and_eq_true_iff.mpr ⟨h1, ok_up h2⟩
theorem flat_up : ∀ rs : List Rw0, (rs.map Rw.flat).all flatB = true
  | [] => rfl
  | r :: rs => Bool.and_eq_true_iff.mpr ⟨rfl, flat_up rs⟩
def spRL (d : Nat) : Sp := fun vs H Q _ => ∃ (a : Addr) (rs : List Rw), vs = [.ref a] ∧ LAt H a rs ∧ okL rs = true ∧ (d = 0 → rs.all flatB = true) ∧ ∀ (p : Addr) (H' : Hp), Same H H' → H p = none → H' p = some (.lst ((linesL rs).map V.str)) → Q (.ref p) H'
def spRLP : Nat → Sp
  | 0 => fun _ _ _ _ => False
  | d + 1 => spRL d
structure FTx (K : PySem.W.Frag) (mg : Str → Option Value) (f : Addr) (d : FuncData) : Prop where
  u : Fun K "_law_sum_text" "_law_sum_text" sTx f d
  b : Binds K d ["_law_terms_here"] []
  g : mg "_law_sum_text" = some (.ref f)
structure FRL (K : PySem.W.Frag) (mg : Str → Option Value) (f : Addr) (d : FuncData) : Prop where
  u : Fun K "_law_rows_lines" "_law_rows_lines" sRL f d
  b : Binds K d ["_law_rows"] []
  g : mg "_law_rows_lines" = some (.ref f)
theorem RAt.iffL {H : Hp} {p : Addr} {a b c : Str} {rs : List Rw0} (h : RAt H p (.iff a b c rs)) : ∃ q t rl, H p = some (.tup [.str "if", .ref q, .ref rl, .non]) ∧ H q = some (.lst [.ref t]) ∧ H t = some (.tup [.bl true, .str a, .str b, .str c]) ∧ L0At H rl rs := h
section
variable {P : Program} {w : World} {K : PySem.W.Frag} {mg : Str → Option Value} {base : Heap}
theorem ok_rl {f fX : Addr} {fd dX : FuncData} (RL : FRL K mg f fd) (X : FTx K mg fX dX) (OX : FnOk P w K mg base CX0 1 fX dX ["_law_terms_here"] spTx) (T : Glob mg) (d : Nat) (OR : FnOk P w K mg base CX0 (d + 2) f fd ["_law_rows"] (spRLP d)) :
    FnOk P w K mg base CX0 (d + 3) f fd ["_law_rows"] (spRL d) := by
  refine RL.u.ok scRL (fun vs H Q E h => ?_) (fun cdv A outer s H vs Q E hr h => ?_)
  · obtain ⟨a, rs, rfl, _⟩ := h
    rfl
  · obtain ⟨a, rs, rfl, ⟨ps, ha, hp⟩, hok, hd, k⟩ := h
    have hr1 := hr.mono (show 1 ≤ d + 2 by omega)
    refine ⟨_, (pss_cons (ps_set (i := 1) scRL.nd rfl (.inl rfl) (pe_lst pa_nil))
 (pss_cons (ps_for PassesOwn.never rfl (pi_list (pv 0)) (pg_name (i := 2) scRL.nd rfl (.inl rfl)) (pss_one (ps_if (pt_cmpR op_eq (pe_ix ix_tup (pv 2) pe_int (fun _ _ => rfl)) pe_str (nomark _)) (pss_cons (ps_setLc (i := 7) (own := [("_law_wanted", 3), ("_law_one", 4), ("_law_sign", 5), ("_law_other", 6)]) (g := (gTup K 4 (gCons (gName 3) (gCons (gName 4) (gCons (gName 5) (gCons (gName 6) gNil)))))) (by rfl) scRL.nd rfl rfl (sw_true rfl rfl rfl (by decide +kernel)) (pi_list (pe_ix ix_tup (pv 2) pe_int (fun _ _ => rfl))) (blkOk_by (N := NRL) (sc := defScope sRL) (by decide +kernel)) (fun _ _ _ _ _ => (pg_tup rfl (pgs_cons (pg_name (i := 3) scRL.nd rfl (.inl rfl)) (pgs_cons (pg_name (i := 4) scRL.nd rfl (.inl rfl)) (pgs_cons (pg_name (i := 5) scRL.nd rfl (.inl rfl)) (pgs_cons (pg_name (i := 6) scRL.nd rfl (.inl rfl)) pgs_nil)))))) (fun _ _ _ _ _ => pts_nil) (fun _ _ _ _ _ => (pe_op op_add_str (pe_cut (pe_ifExp (pt_val (pv 3)) pe_str pe_str)) (pe_joinK K rfl pe_str (pe_lst (pa_cons (pv 4) (pa_cons (pv 5) (pa_cons (pv 6) pa_nil))))))))
 (pss_cons (ps_set (i := 1) scRL.nd rfl (.inl rfl) (pe_op op_cat (pe_op op_cat (pv 1) (pe_lst (pa_cons (pe_op op_add_str pe_str (pe_join pe_str (pv 7))) pa_nil))) (pe_call OR hr rfl RL.g RL.u.kp RL.b .nil pass0 (pa_cons (pe_ix ix_tup (pv 2) pe_int (fun _ _ => rfl)) pa_nil))))
 (pss_one (ps_set (i := 1) scRL.nd rfl (.inl rfl) (pe_op op_cat (pe_op op_cat (pv 1) (pe_ifExp (pt_cmpR op_notN (pe_ix ix_tup (pv 2) pe_int (fun _ _ => rfl)) pe_non (nomark _)) (pe_op op_cat (pe_lst (pa_cons pe_str pa_nil)) (pe_call OR hr rfl RL.g RL.u.kp RL.b .nil pass0 (pa_cons (pe_ix ix_tup (pv 2) pe_int (fun _ _ => rfl)) pa_nil))) (pe_lst pa_nil))) (pe_lst (pa_cons pe_str pa_nil))))))) (pss_one (ps_if (pt_cmpR op_in_seq (pe_ix ix_tup (pv 2) pe_int (fun _ _ => rfl)) (pe_tup (pa_cons pe_str (pa_cons pe_str pa_nil))) (by rfl)) (pss_one (ps_expr (pe_bm PySem.F.plainAttrs_list PySem.F.slot_list_append PySem.F.type_list_append mt_append (pv 1) (pa_cons (pe_op op_add_str (pe_op op_add_str (pe_op op_add_str (pe_ix ix_tup (pv 2) pe_int (fun _ _ => rfl)) pe_str) (pe_cut (pe_ifExp (pt_cmpR op_eq (pe_ix ix_tup (pv 2) pe_int (fun _ _ => rfl)) pe_str (nomark _)) pe_str pe_str))) (pe_call OX hr1 rfl X.g X.u.kp X.b .nil pass0 (pa_cons (pe_ix ix_tup (pv 2) pe_int (fun _ _ => rfl)) pa_nil))) pa_nil)))) (pss_one (ps_if (pt_cmpR op_eq (pe_ix ix_tup (pv 2) pe_int (fun _ _ => rfl)) pe_str (nomark _)) (pss_one (ps_expr (pe_bm PySem.F.plainAttrs_list PySem.F.slot_list_append PySem.F.type_list_append mt_append (pv 1) (pa_cons (pe_op op_add_str (pe_op op_add_str (pe_ix ix_tup (pv 2) pe_int (fun _ _ => rfl)) pe_str) (pe_ix ix_tup (pv 2) pe_int (fun _ _ => rfl))) pa_nil)))) (pss_one (ps_if (pt_cmpR op_in_seq (pe_ix ix_tup (pv 2) pe_int (fun _ _ => rfl)) (pe_tup (pa_cons pe_str (pa_cons pe_str pa_nil))) (by rfl)) (pss_one (ps_expr (pe_bm PySem.F.plainAttrs_list PySem.F.slot_list_append PySem.F.type_list_append mt_append (pv 1) (pa_cons (pe_op op_add_str (pe_ix ix_tup (pv 2) pe_int (fun _ _ => rfl)) (pe_ifExp (pt_cmpR op_isN (pe_ix ix_tup (pv 2) pe_int (fun _ _ => rfl)) pe_non (nomark _)) (pe_op op_add_str pe_str (pe_ix ix_tup (pv 2) pe_int (fun _ _ => rfl))) (pe_op op_add_str (pe_op op_add_str pe_str (pe_call OX hr1 rfl X.g X.u.kp X.b .nil pass0 (pa_cons (pe_ix ix_tup (pv 2) pe_int (fun _ _ => rfl)) pa_nil))) pe_str))) pa_nil)))) (pss_one (ps_expr (pe_bm PySem.F.plainAttrs_list PySem.F.slot_list_append PySem.F.type_list_append mt_append (pv 1) (pa_cons (pe_join pe_str (pe_callTy call_list_of (by rfl) T.list (by decide +kernel) (pa_cons (pv 2) pa_nil))) pa_nil)))))))))))))
 (pss_one (ps_ret (pv 1))))), ?_⟩
    obtain ⟨okA, okN⟩ := and_t hok
    have l30 : rs.length ≤ 30 := of_decide_eq_true okN
    have lps := hp.len
    have l1 : 1 ≤ sizeLine := by decide
    have l2 : 2 ≤ sizeLine := by decide
    have l3 : 3 ≤ sizeLine := by decide
    refine ⟨Nat.zero_le _, fun D hD => ?_⟩
    have s1 : Same H _ := same_new (o := .lst ([] : List V)) hD
    have D1 : upd H D (.lst ([] : List V)) D = some (.lst (([] : List Str).map V.str)) := upd_same
    show gName 1 _ _ (upd H D (.lst ([] : List V))) _
    generalize upd H D (.lst ([] : List V)) = H1 at *
    refine ⟨_, rfl, a, rfl, ⟨_, SqL.of (s1 _ _ ha)⟩, for_list (K := K) (a := a) (xs := ps.map V.ref) (fun i σ G => ∃ (q : Addr) (v2 v3 v4 v5 v6 v7 : Option V), σ = [some (.ref a), some (.ref q), v2, v3, v4, v5, v6, v7] ∧ Same H G ∧ H q = none ∧ G q = some (.lst ((linesL (rs.take i)).map V.str))) ⟨D, none, none, none, none, none, none, rfl, s1, hD, D1⟩ (fun i σ G _ ⟨_, _, _, _, _, _, _, _, sG, _⟩ => SqL.of (sG _ _ ha)) ?_ ?_⟩
    rotate_left
    · rintro σ G ⟨q, v2, v3, v4, v5, v6, v7, rfl, sG, nq, hq⟩
      rw [List.length_map, lps, List.take_length] at hq
      exact ⟨_, rfl, k q G sG nq hq⟩
    rintro i x σ G hi ⟨q, v2, v3, v4, v5, v6, v7, rfl, sG, nq, hq⟩
    rw [List.getElem?_map] at hi
    obtain ⟨p, hpi, rfl⟩ := Option.map_eq_some_iff.mp hi
    obtain ⟨r, hri, hr0⟩ := hp.get hpi
    have hrG : RAt G p r := hr0.same sG
    have li : i < rs.length := (List.getElem?_eq_some_iff.mp hri).1
    have okr : okR r = true := List.all_eq_true.mp okA r (List.mem_of_getElem? hri)
    have okt : (rs.take i).all okR = true := List.all_eq_true.mpr fun r hr => List.all_eq_true.mp okA r (List.mem_of_mem_take hr)
    have lq : (linesL (rs.take i)).length ≤ 900 := by
      have := linesL_len okt
      have := List.length_take_le i rs
      omega
    have esn : linesL (rs.take (i + 1)) = linesL (rs.take i) ++ linesR r := by rw [take_snoc_ hri, linesL_snoc]
    have lq2 : ∀ n : Nat, n ≤ 100 → ((linesL (rs.take i)).map V.str).length + n ≤ sizeLine := fun n hn => by rw [List.length_map, sizeLine_eq]; omega
    have lq3 : ((linesL (rs.take i)).map V.str).length < sizeLine := by rw [List.length_map, sizeLine_eq]; omega
    have fin : ∀ (z : Str) (G' : Hp), Same G G' → linesR r = [z] → Same H (upd G' q (.lst ((linesL (rs.take i)).map V.str ++ [.str z]))) ∧ upd G' q (.lst ((linesL (rs.take i)).map V.str ++ [.str z])) q = some (.lst ((linesL (rs.take (i + 1))).map V.str)) := fun z G' s e => by
      refine ⟨fun c o e => ?_, ?_⟩
      · rw [upd_ne (fun y => by rw [y, nq] at e; cases e)]; exact s _ _ (sG _ _ e)
      · rw [upd_same, esn, e, List.map_append]; rfl
    have sl : ∀ {n : Nat}, n ≤ 10000 → n ≤ sizeLine := fun h => by rw [sizeLine_eq]; omega
    clear hr0 hpi
    cases r with
    | iff a1 b1 c1 rs0 =>
      obtain ⟨q0, t0, rl, hpG, hq0, ht0, hl0⟩ := hrG.iffL
      cases d with
      | zero =>
        have := List.all_eq_true.mp (hd rfl) _ (List.mem_of_getElem? hri)
        cases this
      | succ d =>
      have OK := okr
      obtain ⟨oa, OK⟩ := and_t OK
      obtain ⟨ob, OK⟩ := and_t OK
      obtain ⟨oc, OK⟩ := and_t OK
      obtain ⟨o0, o20⟩ := and_t OK
      have la : a1.length ≤ 1000 := of_decide_eq_true oa
      have lb : b1.length ≤ 1000 := of_decide_eq_true ob
      have lc : c1.length ≤ 1000 := of_decide_eq_true oc
      have l20 : rs0.length ≤ 20 := of_decide_eq_true o20
      refine ⟨_, rfl, p, _, _, .str "if", rfl, rfl, SqT.of hpG, atI_nat (j := 0) rfl, rfl, _, rfl, iteY rfl ?_⟩
      refine ⟨_, rfl, p, _, _, .ref q0, rfl, rfl, SqT.of hpG, atI_nat (j := 1) rfl, q0, rfl, ⟨_, SqL.of hq0⟩, fun D2 hD2 => lc_list (K := K) (a := q0) (xs := [.ref t0]) (fun j G' => Same G G' ∧ G' D2 = some (.lst (((([("" : Str) ++ Txt.join " " [a1, b1, c1]] : List Str).take j)).map V.str))) ⟨same_new hD2, upd_same⟩ (fun i G _ ⟨s, _⟩ => SqL.of (s _ _ hq0)) ?_ ?_⟩
      · rintro j x G' hj ⟨sG', hDG⟩
        cases j with
        | succ j => cases hj
        | zero =>
        cases hj
        refine ⟨t0, _, rfl, SqT.of (sG' _ _ ht0), rfl, _, _, rfl, _, _, rfl, _, _, rfl, _, _, rfl, rfl, ?_⟩
        refine ⟨rfl, fun v G'' => v = .str "" ∧ G'' = G', ⟨_, rfl, true, rfl, iteT ⟨rfl, rfl⟩⟩, ?_⟩
        rintro v G'' ⟨rfl, rfl⟩
        refine ⟨⟨_, rfl⟩, _, rfl, _, rfl, _, rfl, l3, fun m hm => ⟨_, m, [a1, b1, c1], rfl, rfl, .inl (SqL.of upd_same), (by show a1.length + (b1.length + (c1.length + 0)) + 3 * 1 ≤ _; omega), ?_⟩⟩
        have ljn : (Txt.join " " [a1, b1, c1]).length ≤ 4000 := by
          have := join_len " " [a1, b1, c1]
          have e : ([a1, b1, c1].map (·.length)).sum + [a1, b1, c1].length * (" " : Str).length = a1.length + (b1.length + (c1.length + 0)) + 3 * 1 := rfl
          omega
        have sm : Same G'' _ := same_new (o := .lst [.str a1, .str b1, .str c1]) hm
        refine ⟨_, _, rfl, rfl, (by show 0 + _ ≤ _; exact sl (by omega)), [], sm _ _ hDG, (by decide), fun c o e => ?_, ?_⟩
        · rw [upd_ne (fun y => by rw [y, hD2] at e; cases e)]; exact sm _ _ (sG' _ _ e)
        · rw [upd_same]; rfl
      rintro G3 ⟨sG3, hD3⟩
      have ljn : ((("" : Str) ++ Txt.join " " [a1, b1, c1])).length ≤ 4000 := by
        have := join_len " " [a1, b1, c1]
        have e : ([a1, b1, c1].map (·.length)).sum + [a1, b1, c1].length * (" " : Str).length = a1.length + (b1.length + (c1.length + 0)) + 3 * 1 := rfl
        rw [lenA]
        show 0 + _ ≤ _
        omega
      generalize hjz : ("" : Str) ++ Txt.join " " [a1, b1, c1] = jz at *
      have lj2 : (Txt.join " and " [jz]).length ≤ 4010 := by
        have := join_len " and " [jz]
        have e : ([jz].map (·.length)).sum + [jz].length * (" and " : Str).length = jz.length + 0 + 1 * 5 := rfl
        omega
      refine ⟨_, rfl, ⟨_, rfl⟩, _, rfl, _, D2, [jz], rfl, rfl, .inl (SqL.of hD3), (by show jz.length + 0 + 1 * 5 ≤ _; omega), _, _, rfl, rfl, (by show 3 + _ ≤ _; exact sl (by omega)), l1, fun l hl => ?_⟩
      have s4 : Same G3 _ := same_new (o := .lst [.str (("if " : Str) ++ Txt.join " and " [jz])]) hl
      refine ⟨q, l, _, _, rfl, rfl, s4 _ _ (sG3 _ _ hq), upd_same, lq2 1 (by omega), fun m hm => ?_⟩
      have s5 : Same _ _ := same_new (o := .lst ((linesL (rs.take i)).map V.str ++ [.str (("if " : Str) ++ Txt.join " and " [jz])])) hm
      have s05 := sG3.trans (s4.trans s5)
      refine ⟨_, rfl, p, _, _, .ref rl, rfl, rfl, SqT.of (s05 _ _ hpG), atI_nat (j := 2) rfl, rl, rs0.map .flat, rfl, (hl0.same s05).up, Bool.and_eq_true_iff.mpr ⟨ok_up o0, decide_eq_true (by rw [List.length_map]; omega)⟩, (fun _ => flat_up rs0), fun p6 G6 s6 np6 h6 => ?_⟩
      rw [lines_up] at h6
      refine ⟨m, p6, _, _, rfl, rfl, s6 _ _ upd_same, h6, (by rw [List.length_append, List.length_map, List.length_map, List.length_map, sizeLine_eq]; show _ + 1 + _ ≤ _; omega), fun m7 hm7 => ?_⟩
      have s7 : Same _ _ := same_new (o := .lst (((linesL (rs.take i)).map V.str ++ [.str (("if " : Str) ++ Txt.join " and " [jz])]) ++ (rs0.map line0).map V.str)) hm7
      have s07 := s05.trans (s6.trans s7)
      refine ⟨_, rfl, _, rfl, p, _, _, .non, rfl, rfl, SqT.of (s07 _ _ hpG), atI_nat (j := 3) rfl, rfl, _, rfl, iteNS rfl ⟨Nat.zero_le _, fun l8 hl8 => ?_⟩⟩
      have s8 : Same _ _ := same_new (o := .lst ([] : List V)) hl8
      refine ⟨m7, l8, _, _, rfl, rfl, s8 _ _ upd_same, upd_same, (by rw [List.length_append, List.length_append, List.length_map, List.length_map, List.length_map, sizeLine_eq]; show _ + 1 + _ + 0 ≤ _; omega), fun m9 hm9 => ⟨l1, fun l10 hl10 => ?_⟩⟩
      have s9 : Same _ _ := same_new (o := .lst ((((linesL (rs.take i)).map V.str ++ [.str (("if " : Str) ++ Txt.join " and " [jz])]) ++ (rs0.map line0).map V.str) ++ [])) hm9
      have s10 : Same _ _ := same_new (o := .lst [.str "end"]) hl10
      refine ⟨m9, l10, _, _, rfl, rfl, s10 _ _ upd_same, upd_same, (by rw [List.length_append, List.length_append, List.length_append, List.length_map, List.length_map, List.length_map, sizeLine_eq]; show _ + 1 + _ + 0 + 1 ≤ _; omega), fun m11 hm11 => ?_⟩
      have s11 := same_new (o := .lst (((((linesL (rs.take i)).map V.str ++ [.str (("if " : Str) ++ Txt.join " and " [jz])]) ++ (rs0.map line0).map V.str) ++ []) ++ [.str "end"])) hm11
      have sA := sG.trans (s07.trans (s8.trans (s9.trans (s10.trans s11))))
      refine ⟨m11, _, _, _, _, _, _, rfl, sA, ?_, ?_⟩
      · cases e : H m11 with
        | none => rfl
        | some o => rw [(sG.trans (s07.trans (s8.trans (s9.trans s10)))) _ _ e] at hm11; cases hm11
      · have eL : linesR (.iff a1 b1 c1 rs0) = ([("if " : Str) ++ Txt.join " and " [("" : Str) ++ Txt.join " " [a1, b1, c1]]] ++ rs0.map line0) ++ ([("end" : Str)] : List Str) := rfl
        rw [upd_same, esn, eL, hjz, List.append_nil, List.map_append, List.map_append, List.map_append]
        simp only [List.append_assoc]
        rfl
    | flat r =>
      have hr0 : R0At G p r := hrG
      cases r with
      | one a1 =>
        obtain ⟨o1, o2⟩ := and_t (show (plainW a1 && leB a1) = true from okr)
        obtain ⟨w1, o1⟩ := and_t o1
        obtain ⟨w2, o1⟩ := and_t o1
        obtain ⟨w3, w4⟩ := and_t o1
        have la : a1.length ≤ 1000 := of_decide_eq_true o2
        have hpG : G p = some (.tup [.str a1]) := hr0
        refine ⟨_, rfl, p, _, _, .str a1, rfl, rfl, SqT.of hpG, atI_nat (j := 0) rfl, rfl, _, rfl, iteN (kne (of_decide_eq_true w1)) ?_⟩
        refine ⟨_, rfl, p, _, _, .str a1, rfl, rfl, SqT.of hpG, atI_nat (j := 0) rfl, l2, fun t2 ht2 => ?_⟩
        have s2 : Same G _ := same_new (o := .tup (fwd1.map V.str)) ht2
        refine ⟨t2, _, rfl, .inr (SqT.of (xs := fwd1.map V.str) upd_same), rfl, flat_strs fwd1, _, rfl, ?_⟩
        rw [in_strs]
        refine iteN (of_decide_eq_true w2) ?_
        refine ⟨_, rfl, p, _, _, .str a1, rfl, rfl, SqT.of (s2 _ _ hpG), atI_nat (j := 0) rfl, rfl, _, rfl, iteN (kne (of_decide_eq_true w3)) ?_⟩
        refine ⟨_, rfl, p, _, _, .str a1, rfl, rfl, SqT.of (s2 _ _ hpG), atI_nat (j := 0) rfl, l2, fun t3 ht3 => ?_⟩
        have s3 : Same _ _ := same_new (o := .tup (fwd2.map V.str)) ht3
        refine ⟨t3, _, rfl, .inr (SqT.of (xs := fwd2.map V.str) upd_same), rfl, flat_strs fwd2, _, rfl, ?_⟩
        rw [in_strs]
        refine iteN (of_decide_eq_true w4) ?_
        have s23 := s2.trans s3
        refine ⟨_, rfl, .inl ⟨rfl, _, SqL.of (s23 _ _ hq)⟩, ⟨_, rfl⟩, _, rfl, p, _, rfl, .inr (SqT.of (s23 _ _ hpG)), fun l hl => ?_⟩
        have s4 : Same _ _ := same_new (o := .lst [.str a1]) hl
        refine ⟨_, l, [a1], rfl, rfl, .inl (SqL.of upd_same), (by show a1.length + 0 + 1 * 1 ≤ _; omega), q, _, _, rfl, rfl, (s23.trans s4) _ _ hq, lq3, ?_⟩
        obtain ⟨f1, f2⟩ := fin (Txt.join " " [a1]) _ (s23.trans s4) rfl
        exact ⟨q, _, _, _, _, _, _, rfl, f1, nq, f2⟩
      | two a1 b1 =>
        obtain ⟨o1, o2⟩ := and_t (show (plainW a1 && (leB a1 && leB b1)) = true from okr)
        obtain ⟨o2, o3⟩ := and_t o2
        obtain ⟨w1, o1⟩ := and_t o1
        obtain ⟨w2, o1⟩ := and_t o1
        obtain ⟨w3, w4⟩ := and_t o1
        have la : a1.length ≤ 1000 := of_decide_eq_true o2
        have lb : b1.length ≤ 1000 := of_decide_eq_true o3
        have hpG : G p = some (.tup [.str a1, .str b1]) := hr0
        refine ⟨_, rfl, p, _, _, .str a1, rfl, rfl, SqT.of hpG, atI_nat (j := 0) rfl, rfl, _, rfl, iteN (kne (of_decide_eq_true w1)) ?_⟩
        refine ⟨_, rfl, p, _, _, .str a1, rfl, rfl, SqT.of hpG, atI_nat (j := 0) rfl, l2, fun t2 ht2 => ?_⟩
        have s2 : Same G _ := same_new (o := .tup (fwd1.map V.str)) ht2
        refine ⟨t2, _, rfl, .inr (SqT.of (xs := fwd1.map V.str) upd_same), rfl, flat_strs fwd1, _, rfl, ?_⟩
        rw [in_strs]
        refine iteN (of_decide_eq_true w2) ?_
        refine ⟨_, rfl, p, _, _, .str a1, rfl, rfl, SqT.of (s2 _ _ hpG), atI_nat (j := 0) rfl, rfl, _, rfl, iteN (kne (of_decide_eq_true w3)) ?_⟩
        refine ⟨_, rfl, p, _, _, .str a1, rfl, rfl, SqT.of (s2 _ _ hpG), atI_nat (j := 0) rfl, l2, fun t3 ht3 => ?_⟩
        have s3 : Same _ _ := same_new (o := .tup (fwd2.map V.str)) ht3
        refine ⟨t3, _, rfl, .inr (SqT.of (xs := fwd2.map V.str) upd_same), rfl, flat_strs fwd2, _, rfl, ?_⟩
        rw [in_strs]
        refine iteN (of_decide_eq_true w4) ?_
        have s23 := s2.trans s3
        refine ⟨_, rfl, .inl ⟨rfl, _, SqL.of (s23 _ _ hq)⟩, ⟨_, rfl⟩, _, rfl, p, _, rfl, .inr (SqT.of (s23 _ _ hpG)), fun l hl => ?_⟩
        have s4 : Same _ _ := same_new (o := .lst [.str a1, .str b1]) hl
        refine ⟨_, l, [a1, b1], rfl, rfl, .inl (SqL.of upd_same), (by show a1.length + (b1.length + 0) + 2 * 1 ≤ _; omega), q, _, _, rfl, rfl, (s23.trans s4) _ _ hq, lq3, ?_⟩
        obtain ⟨f1, f2⟩ := fin (Txt.join " " [a1, b1]) _ (s23.trans s4) rfl
        exact ⟨q, _, _, _, _, _, _, rfl, f1, nq, f2⟩
      | tag t m ts =>
        obtain ⟨o1, o2⟩ := and_t (show (decide (t ∈ fwd1) && (leB m && (fewB ts && leB (textS ts)))) = true from okr)
        obtain ⟨o2, o3⟩ := and_t o2
        obtain ⟨o3, o4⟩ := and_t o3
        have w1 : t ∈ fwd1 := of_decide_eq_true o1
        have lm : m.length ≤ 1000 := of_decide_eq_true o2
        have lt : (textS ts).length ≤ 1000 := of_decide_eq_true o4
        have few := few_of o3
        obtain ⟨ta, hpG, htm⟩ : ∃ a, G p = some (.tup [.str t, .str m, .ref a]) ∧ TmsS G a ts := hr0
        have nif : ¬ t = "if" := fun y => by rw [y] at w1; exact absurd w1 (by decide +kernel)
        refine ⟨_, rfl, p, _, _, .str t, rfl, rfl, SqT.of hpG, atI_nat (j := 0) rfl, rfl, _, rfl, iteN (kne nif) ?_⟩
        refine ⟨_, rfl, p, _, _, .str t, rfl, rfl, SqT.of hpG, atI_nat (j := 0) rfl, l2, fun t2 ht2 => ?_⟩
        have s2 : Same G _ := same_new (o := .tup (fwd1.map V.str)) ht2
        refine ⟨t2, _, rfl, .inr (SqT.of (xs := fwd1.map V.str) upd_same), rfl, flat_strs fwd1, _, rfl, ?_⟩
        rw [in_strs]
        refine iteY w1 ?_
        have hp2 := s2 _ _ hpG
        refine ⟨_, rfl, .inl ⟨rfl, _, SqL.of (s2 _ _ hq)⟩, ?_⟩
        refine ⟨_, rfl, p, _, _, .str m, rfl, rfl, SqT.of hp2, atI_nat (j := 1) rfl, _, _, rfl, rfl, (by show m.length + 3 ≤ _; exact sl (by omega)), ?_⟩
        refine ⟨fun v G' => v = .str (if t = "wrap" then ("wrap " : Str) else ("" : Str)) ∧ G' = upd G t2 (.tup (fwd1.map V.str)), ?_, ?_⟩
        · refine ⟨_, rfl, p, _, _, .str t, rfl, rfl, SqT.of hp2, atI_nat (j := 0) rfl, rfl, _, rfl, ?_⟩
          rw [dec_str]
          by_cases h : t = "wrap"
          · rw [if_pos h]; exact iteY h ⟨rfl, rfl⟩
          · rw [if_neg h]; exact iteN h ⟨rfl, rfl⟩
        rintro v G' ⟨rfl, rfl⟩
        have lw : (if t = "wrap" then ("wrap " : Str) else "").length ≤ 5 := by split <;> decide +kernel
        refine ⟨_, _, rfl, rfl, (by rw [lenA]; show m.length + 3 + _ ≤ _; exact sl (by omega)), ?_⟩
        refine ⟨_, rfl, p, _, _, .ref ta, rfl, rfl, SqT.of hp2, atI_nat (j := 2) rfl, ta, ts, rfl, htm.same s2, few, fun G3 s3 => ?_⟩
        refine ⟨_, _, rfl, rfl, (by rw [lenA, lenA]; show m.length + 3 + _ + _ ≤ _; exact sl (by omega)), q, _, _, rfl, rfl, (s2.trans s3) _ _ hq, lq3, ?_⟩
        obtain ⟨f1, f2⟩ := fin (m ++ " = " ++ (if t = "wrap" then ("wrap " : Str) else ("" : Str)) ++ textS ts) _ (s2.trans s3) rfl
        exact ⟨q, _, _, _, _, _, _, rfl, f1, nq, f2⟩
      | sea n1 q1 =>
        obtain ⟨o1, o2⟩ := and_t (show (leB n1 && leB q1) = true from okr)
        have la : n1.length ≤ 1000 := of_decide_eq_true o1
        have lb : q1.length ≤ 1000 := of_decide_eq_true o2
        have hpG : G p = some (.tup [.str "sealed", .str n1, .str q1]) := hr0
        refine ⟨_, rfl, p, _, _, .str "sealed", rfl, rfl, SqT.of hpG, atI_nat (j := 0) rfl, rfl, _, rfl, iteN (kne (by decide +kernel)) ?_⟩
        refine ⟨_, rfl, p, _, _, .str "sealed", rfl, rfl, SqT.of hpG, atI_nat (j := 0) rfl, l2, fun t2 ht2 => ?_⟩
        have s2 : Same G _ := same_new (o := .tup (fwd1.map V.str)) ht2
        refine ⟨t2, _, rfl, .inr (SqT.of (xs := fwd1.map V.str) upd_same), rfl, flat_strs fwd1, _, rfl, ?_⟩
        rw [in_strs]
        refine iteN (show ¬ ("sealed" : Str) ∈ fwd1 by decide +kernel) ?_
        have hp2 := s2 _ _ hpG
        refine ⟨_, rfl, p, _, _, .str "sealed", rfl, rfl, SqT.of hp2, atI_nat (j := 0) rfl, rfl, _, rfl, iteY rfl ?_⟩
        refine ⟨_, rfl, .inl ⟨rfl, _, SqL.of (s2 _ _ hq)⟩, ?_⟩
        refine ⟨_, rfl, p, _, _, .str n1, rfl, rfl, SqT.of hp2, atI_nat (j := 1) rfl, _, _, rfl, rfl, (by show n1.length + 10 ≤ _; exact sl (by omega)), ?_⟩
        refine ⟨_, rfl, p, _, _, .str q1, rfl, rfl, SqT.of hp2, atI_nat (j := 2) rfl, _, _, rfl, rfl, (by rw [lenA]; show n1.length + 10 + _ ≤ _; exact sl (by omega)), q, _, _, rfl, rfl, s2 _ _ hq, lq3, ?_⟩
        obtain ⟨f1, f2⟩ := fin (n1 ++ " = sealed " ++ q1) _ s2 rfl
        exact ⟨q, _, _, _, _, _, _, rfl, f1, nq, f2⟩
      | tim t ts =>
        obtain ⟨o1, o2⟩ := and_t (show (decide (t ∈ fwd2) && (leB t && (fewB ts && leB (textS ts)))) = true from okr)
        obtain ⟨o2, o3⟩ := and_t o2
        obtain ⟨o3, o4⟩ := and_t o3
        have w1 : t ∈ fwd2 := of_decide_eq_true o1
        have lt0 : t.length ≤ 1000 := of_decide_eq_true o2
        have lt : (textS ts).length ≤ 1000 := of_decide_eq_true o4
        have few := few_of o3
        obtain ⟨ta, hpG, htm⟩ : ∃ a, G p = some (.tup [.str t, .ref a, .non]) ∧ TmsS G a ts := hr0
        have nif : ¬ t = "if" := fun y => by rw [y] at w1; exact absurd w1 (by decide +kernel)
        have nse : ¬ t = "sealed" := fun y => by rw [y] at w1; exact absurd w1 (by decide +kernel)
        have nf1 : ¬ t ∈ fwd1 := fun y => (show ∀ z ∈ fwd1, ¬ z ∈ fwd2 by decide +kernel) t y w1
        refine ⟨_, rfl, p, _, _, .str t, rfl, rfl, SqT.of hpG, atI_nat (j := 0) rfl, rfl, _, rfl, iteN (kne nif) ?_⟩
        refine ⟨_, rfl, p, _, _, .str t, rfl, rfl, SqT.of hpG, atI_nat (j := 0) rfl, l2, fun t2 ht2 => ?_⟩
        have s2 : Same G _ := same_new (o := .tup (fwd1.map V.str)) ht2
        refine ⟨t2, _, rfl, .inr (SqT.of (xs := fwd1.map V.str) upd_same), rfl, flat_strs fwd1, _, rfl, ?_⟩
        rw [in_strs]
        refine iteN nf1 ?_
        refine ⟨_, rfl, p, _, _, .str t, rfl, rfl, SqT.of (s2 _ _ hpG), atI_nat (j := 0) rfl, rfl, _, rfl, iteN (kne nse) ?_⟩
        refine ⟨_, rfl, p, _, _, .str t, rfl, rfl, SqT.of (s2 _ _ hpG), atI_nat (j := 0) rfl, l2, fun t3 ht3 => ?_⟩
        have s3 : Same _ _ := same_new (o := .tup (fwd2.map V.str)) ht3
        refine ⟨t3, _, rfl, .inr (SqT.of (xs := fwd2.map V.str) upd_same), rfl, flat_strs fwd2, _, rfl, ?_⟩
        rw [in_strs]
        refine iteY w1 ?_
        have s23 := s2.trans s3
        have hp2 := s23 _ _ hpG
        refine ⟨_, rfl, .inl ⟨rfl, _, SqL.of (s23 _ _ hq)⟩, ?_⟩
        refine ⟨_, rfl, p, _, _, .str t, rfl, rfl, SqT.of hp2, atI_nat (j := 0) rfl, ?_⟩
        refine ⟨_, rfl, p, _, _, .ref ta, rfl, rfl, SqT.of hp2, atI_nat (j := 1) rfl, rfl, _, rfl, iteN (fun y => nomatch y) ?_⟩
        refine ⟨_, rfl, p, _, _, .ref ta, rfl, rfl, SqT.of hp2, atI_nat (j := 1) rfl, ta, ts, rfl, htm.same s23, few, fun G3 s4 => ?_⟩
        refine ⟨_, _, rfl, rfl, (by show 1 + _ ≤ _; exact sl (by omega)), _, _, rfl, rfl, (by rw [lenA]; show 1 + _ + 6 ≤ _; exact sl (by omega)), _, _, rfl, rfl, (by rw [lenA, lenA]; show _ + (1 + _ + 6) ≤ _; exact sl (by omega)), q, _, _, rfl, rfl, (s23.trans s4) _ _ hq, lq3, ?_⟩
        obtain ⟨f1, f2⟩ := fin (t ++ (" " ++ textS ts ++ " times")) _ (s23.trans s4) rfl
        exact ⟨q, _, _, _, _, _, _, rfl, f1, nq, f2⟩
      | til t g =>
        obtain ⟨o1, o2⟩ := and_t (show (decide (t ∈ fwd2) && (leB t && leB g)) = true from okr)
        obtain ⟨o2, o3⟩ := and_t o2
        have w1 : t ∈ fwd2 := of_decide_eq_true o1
        have lt0 : t.length ≤ 1000 := of_decide_eq_true o2
        have lt : g.length ≤ 1000 := of_decide_eq_true o3
        have hpG : G p = some (.tup [.str t, .non, .str g]) := hr0
        have nif : ¬ t = "if" := fun y => by rw [y] at w1; exact absurd w1 (by decide +kernel)
        have nse : ¬ t = "sealed" := fun y => by rw [y] at w1; exact absurd w1 (by decide +kernel)
        have nf1 : ¬ t ∈ fwd1 := fun y => (show ∀ z ∈ fwd1, ¬ z ∈ fwd2 by decide +kernel) t y w1
        refine ⟨_, rfl, p, _, _, .str t, rfl, rfl, SqT.of hpG, atI_nat (j := 0) rfl, rfl, _, rfl, iteN (kne nif) ?_⟩
        refine ⟨_, rfl, p, _, _, .str t, rfl, rfl, SqT.of hpG, atI_nat (j := 0) rfl, l2, fun t2 ht2 => ?_⟩
        have s2 : Same G _ := same_new (o := .tup (fwd1.map V.str)) ht2
        refine ⟨t2, _, rfl, .inr (SqT.of (xs := fwd1.map V.str) upd_same), rfl, flat_strs fwd1, _, rfl, ?_⟩
        rw [in_strs]
        refine iteN nf1 ?_
        refine ⟨_, rfl, p, _, _, .str t, rfl, rfl, SqT.of (s2 _ _ hpG), atI_nat (j := 0) rfl, rfl, _, rfl, iteN (kne nse) ?_⟩
        refine ⟨_, rfl, p, _, _, .str t, rfl, rfl, SqT.of (s2 _ _ hpG), atI_nat (j := 0) rfl, l2, fun t3 ht3 => ?_⟩
        have s3 : Same _ _ := same_new (o := .tup (fwd2.map V.str)) ht3
        refine ⟨t3, _, rfl, .inr (SqT.of (xs := fwd2.map V.str) upd_same), rfl, flat_strs fwd2, _, rfl, ?_⟩
        rw [in_strs]
        refine iteY w1 ?_
        have s23 := s2.trans s3
        have hp2 := s23 _ _ hpG
        refine ⟨_, rfl, .inl ⟨rfl, _, SqL.of (s23 _ _ hq)⟩, ?_⟩
        refine ⟨_, rfl, p, _, _, .str t, rfl, rfl, SqT.of hp2, atI_nat (j := 0) rfl, ?_⟩
        refine ⟨_, rfl, p, _, _, .non, rfl, rfl, SqT.of hp2, atI_nat (j := 1) rfl, rfl, _, rfl, iteY rfl ?_⟩
        refine ⟨_, rfl, p, _, _, .str g, rfl, rfl, SqT.of hp2, atI_nat (j := 2) rfl, _, _, rfl, rfl, (by show 7 + _ ≤ _; exact sl (by omega)), _, _, rfl, rfl, (by rw [lenA]; show _ + (7 + _) ≤ _; exact sl (by omega)), q, _, _, rfl, rfl, s23 _ _ hq, lq3, ?_⟩
        obtain ⟨f1, f2⟩ := fin (t ++ (" until " ++ g)) _ s23 rfl
        exact ⟨q, _, _, _, _, _, _, rfl, f1, nq, f2⟩
end
end IdL
namespace IdL
open PySem L2 TL
abbrev sTxt : Stmt := top 103
theorem scTxt : FnScope ["_law_rows"] ["_law_rows"] (defScope sTxt) := ⟨rfl, rfl, rfl, by decide +kernel, rfl, by decide +kernel, by decide +kernel⟩
def spTxt : Sp := fun vs H Q _ => ∃ (a : Addr) (rs : List Rw), vs = [.ref a] ∧ LAt H a rs ∧ okL rs = true ∧ ((linesL rs).map (·.length)).sum + (linesL rs).length * ("\n" : Str).length ≤ 200000 ∧ ∀ H', Same H H' → Q (.str (textL rs)) H'
section
variable {K : PySem.W.Frag} {H : Hp} {Q : VK} {a b : Addr} {rs us : List Rw}
theorem rd_to (h : LAt H a rs) {j : Int} (k : Nat) (e : j = (k : Int)) (q : ∀ c G, Same H G → LAt G c (rs.take k) → Q (.ref c) G) : rSlL K (.ref a) none (some j) H Q := by
  subst e
  obtain ⟨ps, h1, h2⟩ := h
  refine ⟨a, _, rfl, SqL.of h1, fun p hp => ?_⟩
  rw [cut_to, ← List.map_take]
  exact q p _ (same_new hp) (LAt.new hp (h2.take k))
theorem rd_from (h : LAt H a rs) {j : Int} (k : Nat) (e : j = (k : Int)) (q : ∀ c G, Same H G → LAt G c (rs.drop k) → Q (.ref c) G) : rSlL K (.ref a) (some j) none H Q := by
  subst e
  obtain ⟨ps, h1, h2⟩ := h
  refine ⟨a, _, rfl, SqL.of h1, fun p hp => ?_⟩
  rw [cut_from, ← List.map_drop]
  exact q p _ (same_new hp) (LAt.new hp (h2.drop k))
theorem rd_fromN {σ : St} (h : LAt H a rs) {j : Int} (k : Nat) (e : j = (k : Int)) (q : ∀ c G, Same H G → LAt G c (rs.drop k) → Q (.ref c) G) : tNoPart σ H fun u H3 => rSlL K (.ref a) (some j) u H3 Q := rd_from h k e q
theorem rd_cat (ha : LAt H a rs) (hb : LAt H b us) (hl : rs.length + us.length ≤ 1000) (q : ∀ c G, Same H G → LAt G c (rs ++ us) → Q (.ref c) G) : rCat (.ref a) (.ref b) H Q := by
  obtain ⟨ps, h1, h2⟩ := ha
  obtain ⟨qs, k1, k2⟩ := hb
  have l1 := h2.len
  have l2 := k2.len
  refine ⟨a, b, _, _, rfl, rfl, h1, k1, (by rw [List.length_map, List.length_map, sizeLine_eq]; omega), fun p hp => ?_⟩
  rw [← List.map_append]
  exact q p _ (same_new hp) (LAt.new hp (h2.app k2))
theorem rd_lit {ps : List Addr} (h : Ats (RAt H) ps rs) (hl : ps.length ≤ 1000) (q : ∀ c G, Same H G → LAt G c rs → Q (.ref c) G) : (ps.map V.ref).length ≤ sizeLine ∧ ∀ p, H p = none → Q (.ref p) (upd H p (.lst (ps.map V.ref))) :=
  ⟨by rw [List.length_map, sizeLine_eq]; omega, fun p hp => q p _ (same_new hp) (LAt.new hp h)⟩
end
/-! ### a heap without one object -/
def offD (D : Addr) (H : Hp) : Hp := fun a => if a = D then none else H a
theorem off_ne {D a : Addr} {H : Hp} (h : a ≠ D) : offD D H a = H a := if_neg h
theorem off_same {D : Addr} {H : Hp} : Same (offD D H) H := fun a o e => by
  unfold offD at e
  split at e
  · cases e
  · exact e
theorem off_mono {D : Addr} {H G : Hp} (s : Same H G) : Same (offD D H) (offD D G) := fun a o e => by
  unfold offD at e ⊢
  split at e
  · cases e
  · rename_i h
    rw [if_neg h]; exact s _ _ e
theorem off_upd {D : Addr} {H : Hp} {o : HO} : offD D (upd H D o) = offD D H := funext fun a => by
  unfold offD
  by_cases h : a = D
  · rw [if_pos h, if_pos h]
  · rw [if_neg h, if_neg h, upd_ne h]
theorem off_new {D : Addr} {H G : Hp} (hD : H D = none) (s : Same H G) : Same H (offD D G) := fun a o e => by
  rw [off_ne (fun y => by rw [y, hD] at e; cases e)]
  exact s _ _ e
theorem rd_tup {H : Hp} {Q : VK} {xs : List V} (hl : xs.length ≤ 1000) (q : ∀ p G, Same H G → G p = some (.tup xs) → Q (.ref p) G) : xs.length ≤ sizeLine ∧ ∀ p, H p = none → Q (.ref p) (upd H p (.tup xs)) := ⟨by rw [sizeLine_eq]; omega, fun p hp => q p _ (same_new hp) upd_same⟩
theorem rd_lst {H : Hp} {Q : VK} {xs : List V} (hl : xs.length ≤ 1000) (q : ∀ p G, Same H G → G p = some (.lst xs) → Q (.ref p) G) : xs.length ≤ sizeLine ∧ ∀ p, H p = none → Q (.ref p) (upd H p (.lst xs)) := ⟨by rw [sizeLine_eq]; omega, fun p hp => q p _ (same_new hp) upd_same⟩
structure FRight (K : PySem.W.Frag) (mg : Str → Option Value) (f : Addr) (d : FuncData) : Prop where
  u : Fun K "_law_right" "_law_right" sRight f d
  b : Binds K d ["_law_kind"] []
  g : mg "_law_right" = some (.ref f)
section
variable {P : Program} {w : World} {K : PySem.W.Frag} {mg : Str → Option Value} {base : Heap}
theorem ok_txt {f fL : Addr} {fd dL : FuncData} (F : Fun K "_law_text" "_law_text" sTxt f fd) (RL : FRL K mg fL dL) (OL : FnOk P w K mg base CX0 4 fL dL ["_law_rows"] (spRL 1)) : FnOk P w K mg base CX0 5 f fd ["_law_rows"] spTxt := by
  refine F.ok scTxt (fun vs H Q E h => ?_) (fun cdv A outer s H vs Q E hr h => ?_)
  · obtain ⟨a, rs, rfl, _⟩ := h
    rfl
  · obtain ⟨a, rs, rfl, ha, hok, hs, k⟩ := h
    refine ⟨_, (pss_one (ps_ret (pe_join pe_str (pe_call OL hr rfl RL.g RL.u.kp RL.b .nil pass0 (pa_cons (pv 0) pa_nil))))), ?_⟩
    exact ⟨⟨_, rfl⟩, _, rfl, a, rs, rfl, ha, hok, (fun e => nomatch e), fun p H' s1 np hp => ⟨_, p, linesL rs, rfl, rfl, .inl (SqL.of hp), (by omega), k _ s1⟩⟩
end
end IdL
namespace RZ
open PySem PySem.Spec PyProof.Rows
section
variable {prog : Program} {w : World} {A : Around} {E : Value → Shared → Prop} {s : Shared}
/-- one more pair out of two tuples, the pair before still out -/
theorem nx_held {q P O T j1 j2 t1 t2 : Addr} {b : Bool} {ob : Obj} {n1 n2 : Nat} {us vs : Array Value} {u v : Value} {Q : Value → Shared → Prop} (D : ZipApart q P O j1 j2 t1 t2)
    (gq : IsZipHeld s.heap q P O T b) (gT : s.heap.get? T = some ob) (gP : IsPair s.heap P (.ref j1) (.ref j2)) (g1 : s.heap.IsTupleIter j1 t1 n1) (g2 : s.heap.IsTupleIter j2 t2 n2)
    (e1 : s.heap.IsTuple t1 us) (e2 : s.heap.IsTuple t2 vs) (hu : us[n1]? = some u) (hv : vs[n2]? = some v)
    (k : ∀ g, IsZipHeld g q P O T true → g.IsTupleIter j1 t1 (n1 + 1) → g.IsTupleIter j2 t2 (n2 + 1) → IsPair g s.heap.objs.size u v →
      (∀ c o, c ≠ q → c ≠ j1 → c ≠ j2 → s.heap.get? c = some o → g.get? c = some o) → Q (.ref s.heap.objs.size) { s with heap := g }) :
    wpAny (model prog w) A (Builtin.«zip.__next__» ⟨[.ref q], []⟩) (fun r s' => ∃ a, r = .done (.ret a) ∧ Q a s') E s := by
  show wpAny _ _ (field (.ref q) 2 >>= _) _ _ _
  refine wpAny_bind (wpAny_field gq rfl (x := .bool false) rfl ?_)
  show wpAny _ _ (field (.ref q) 3 >>= _) _ _ _
  refine wpAny_bind (wpAny_field gq rfl (x := .ref P) rfl ?_)
  refine wpAny_bind (wpAny_seqItems gP rfl ?_)
  show wpAny _ _ (Builtin.SmallTypes.ownedTupleIsFree (.ref q) >>= _) _ _ _
  refine wpAny_bind (wpAny_tupleHeld_zip gq gT fun a₁ q₁ w₁ => ?_)
  simp only [Bool.false_eq_true, if_false]
  refine wpAny_bind ?_
  rw [← Array.forIn_toList]
  simp only [List.forIn_cons, List.forIn_nil]
  refine wpAny_bind (wpAny_bind (wpAny_holding ?_))
  show wpAny _ _ (Builtin.SmallTypes.nextOf (.ref j1) >>= _) _ _ _
  refine wpAny_bind (nextOf_tuple_item (s := { s with heap := a₁ }) (g1.extBut w₁.extBut D.i1z) (e1.extBut w₁.extBut D.l1z) hu fun a₂ p₂ w₂ => wpAny_pure ?_)
  refine wpAny_pure ?_
  refine wpAny_bind (wpAny_bind (wpAny_holding ?_))
  show wpAny _ _ (Builtin.SmallTypes.nextOf (.ref j2) >>= _) _ _ _
  refine wpAny_bind (nextOf_tuple_item (s := { s with heap := a₂ }) ((g2.extBut w₁.extBut D.i2z).extBut w₂.extBut D.i12.symm) ((e2.extBut w₁.extBut D.l2z).extBut w₂.extBut D.l2i1) hv fun a₃ p₃ w₃ => wpAny_pure ?_)
  refine wpAny_pure (wpAny_pure ?_)
  show wpAny _ _ (newTuple [u, v] >>= _) _ _ _
  refine wpAny_bind (wpAny_newTuple ?_)
  have sz : a₃.objs.size = s.heap.objs.size := by rw [w₃.1, w₂.1, w₁.1]
  have q₃ : IsZipHeld a₃ q P O T true := w₃.extBut _ _ D.i2z.symm (w₂.extBut _ _ D.i1z.symm q₁)
  have p₄ : a₃.IsTupleIter j1 t1 (n1 + 1) := p₂.extBut w₃.extBut D.i12
  refine wpAny_pure ⟨_, rfl, ?_⟩
  show Q (.ref a₃.objs.size) _
  have np : IsPair (a₃.push { cls := .type "tuple", data := .seq #[u, v] }) a₃.objs.size u v := Heap.get?_push_size _ rfl
  rw [sz] at np ⊢
  exact k _ (Heap.get?_push_of_some _ q₃) (p₄.at fun o e => Heap.get?_push_of_some _ e) (p₃.at fun o e => Heap.get?_push_of_some _ e) np
    fun c o c1 c2 c3 e => Heap.get?_push_of_some _ (w₃.extBut _ _ c3 (w₂.extBut _ _ c2 (w₁.extBut _ _ c1 e)))
/-- two tuples are at their ends, the pair before still out -/
theorem end_held {q P O T j1 j2 t1 t2 : Addr} {b : Bool} {ob : Obj} {n1 n2 : Nat} {us vs : Array Value} {Q : Fin → Shared → Prop} (no : A.handled = none) (D : ZipApart q P O j1 j2 t1 t2)
    (gq : IsZipHeld s.heap q P O T b) (gT : s.heap.get? T = some ob) (gP : IsPair s.heap P (.ref j1) (.ref j2)) (g1 : s.heap.IsTupleIter j1 t1 n1) (e1 : s.heap.IsTuple t1 us) (hu : us[n1]? = none)
    (k : ∀ g e, (∀ c o, c ≠ q → c ≠ j1 → c ≠ j2 → s.heap.get? c = some o → g.get? c = some o) → (∃ o, g.get? e = some o ∧ o.cls = .type "StopIteration") → E (.ref e) { s with heap := g }) :
    wpAny (model prog w) A (Builtin.«zip.__next__» ⟨[.ref q], []⟩) Q E s := by
  show wpAny _ _ (field (.ref q) 2 >>= _) _ _ _
  refine wpAny_bind (wpAny_field gq rfl (x := .bool false) rfl ?_)
  show wpAny _ _ (field (.ref q) 3 >>= _) _ _ _
  refine wpAny_bind (wpAny_field gq rfl (x := .ref P) rfl ?_)
  refine wpAny_bind (wpAny_seqItems gP rfl ?_)
  show wpAny _ _ (Builtin.SmallTypes.ownedTupleIsFree (.ref q) >>= _) _ _ _
  refine wpAny_bind (wpAny_tupleHeld_zip gq gT fun a₁ q₁ w₁ => ?_)
  simp only [Bool.false_eq_true, if_false]
  refine wpAny_bind ?_
  rw [← Array.forIn_toList]
  simp only [List.forIn_cons, List.forIn_nil]
  refine wpAny_bind (wpAny_bind (wpAny_holding ?_))
  show wpAny _ _ (Builtin.SmallTypes.nextOf (.ref j1) >>= _) _ _ _
  refine wpAny_bind (nextOf_tuple_end (s := { s with heap := a₁ }) no (g1.extBut w₁.extBut D.i1z) (e1.extBut w₁.extBut D.l1z) hu fun a₂ e w₂ he => ?_)
  exact k a₂ e (fun c o c1 c2 _ x => w₂ _ _ c2 (w₁.extBut _ _ c1 x)) he
theorem py_held {q P O T j1 j2 t1 t2 : Addr} {b : Bool} {ob : Obj} {n1 n2 : Nat} {us vs : Array Value} {u v : Value} {Q : Option Value → Shared → Prop} (D : ZipApart q P O j1 j2 t1 t2)
    (gq : IsZipHeld s.heap q P O T b) (gT : s.heap.get? T = some ob) (gP : IsPair s.heap P (.ref j1) (.ref j2)) (g1 : s.heap.IsTupleIter j1 t1 n1) (g2 : s.heap.IsTupleIter j2 t2 n2)
    (e1 : s.heap.IsTuple t1 us) (e2 : s.heap.IsTuple t2 vs) (hu : us[n1]? = some u) (hv : vs[n2]? = some v)
    (k : ∀ g, IsZipHeld g q P O T true → g.IsTupleIter j1 t1 (n1 + 1) → g.IsTupleIter j2 t2 (n2 + 1) → IsPair g s.heap.objs.size u v →
      (∀ c o, c ≠ q → c ≠ j1 → c ≠ j2 → s.heap.get? c = some o → g.get? c = some o) → Q (some (.ref s.heap.objs.size)) { s with heap := g }) :
    wpAny (model prog w) A (pyNext (.ref q)) Q E s := by
  have ty : s.TypeIs (.ref q) "zip" := ⟨_, gq, rfl⟩
  unfold pyNext
  exact wpAny_bind (wpAny_attempt (wpAny_callSpecial?_slot (name := Str.ofString "__next__") ty F.slot_zip_next
    (wpAny_call_entry F.slot_zip_next ty F.entry_zip_next (nx_held D gq gT gP g1 g2 e1 e2 hu hv fun g z1 z2 z3 z4 z5 => wpAny_pure (k g z1 z2 z3 z4 z5)) (F.args_zip_next_1 _))))
theorem py_end {q P O T j1 j2 t1 t2 : Addr} {b : Bool} {ob : Obj} {n1 n2 : Nat} {us vs : Array Value} {Q : Option Value → Shared → Prop} (no : A.handled = none) (D : ZipApart q P O j1 j2 t1 t2)
    (gq : IsZipHeld s.heap q P O T b) (gT : s.heap.get? T = some ob) (gP : IsPair s.heap P (.ref j1) (.ref j2)) (g1 : s.heap.IsTupleIter j1 t1 n1) (e1 : s.heap.IsTuple t1 us) (hu : us[n1]? = none)
    (k : ∀ g, (∀ c o, c ≠ q → c ≠ j1 → c ≠ j2 → s.heap.get? c = some o → g.get? c = some o) → Q none { s with heap := g }) : wpAny (model prog w) A (pyNext (.ref q)) Q E s := by
  have ty : s.TypeIs (.ref q) "zip" := ⟨_, gq, rfl⟩
  unfold pyNext
  refine wpAny_bind (wpAny_attempt (wpAny_callSpecial?_slot (name := Str.ofString "__next__") ty F.slot_zip_next
    (wpAny_call_entry F.slot_zip_next ty F.entry_zip_next (end_held (vs := us) (n2 := 0) (t2 := t2) no D gq gT gP g1 e1 hu fun g e kk he => ?_) (F.args_zip_next_1 _))))
  obtain ⟨o, ho, hc⟩ := he
  exact wpAny_bind (wpAny_isInstance (T := "StopIteration") (b := true) ⟨o, ho, hc⟩ isSubtype_stop (wpAny_pure (k _ kk)))
end
section
variable {prog : Program} {w : World}
/-- how far a zip of two tuples is, seen from a dict at d that it fills -/
def At (q P O j1 j2 t1 t2 d : Addr) (us vs : Array Value) (i : Nat) (h : Heap) : Prop :=
  IsPair h P (.ref j1) (.ref j2) ∧ h.IsTupleIter j1 t1 i ∧ h.IsTupleIter j2 t2 i ∧ h.IsTuple t1 us ∧ h.IsTuple t2 vs ∧
    ((IsZip h q P O .none ∧ ∃ a b, IsPair h O a b) ∨ ∃ T f oT, IsZipHeld h q P O T f ∧ h.get? T = some oT ∧ T ≠ q ∧ T ≠ j1 ∧ T ≠ j2 ∧ T ≠ d)
/-- what dict() may be given: a zip of two tuples of one length -/
theorem zipArg (q P O j1 j2 t1 t2 : Addr) (D : ZipApart q P O j1 j2 t1 t2) (us vs : Array Value) (hl : us.size = vs.size) :
    PairArg prog w "zip" q [q, P, O, j1, j2, t1, t2] [q, O, j1, j2] us.size (fun i k v => us[i]? = some k ∧ vs[i]? = some v)
      (fun h => IsZip h q P O .none ∧ IsPair h P (.ref j1) (.ref j2) ∧ (∃ a b, IsPair h O a b) ∧ h.IsTupleIter j1 t1 0 ∧ h.IsTupleIter j2 t2 0 ∧ h.IsTuple t1 us ∧ h.IsTuple t2 vs) where
  type := fun s x => ⟨_, x.1, rfl⟩
  notDict := by decide
  keep := fun h h' x y => by
    obtain ⟨z1, z2, ⟨a, b, z3⟩, z4, z5, z6, z7⟩ := x
    exact ⟨y _ _ z1, y _ _ z2, ⟨a, b, y _ _ z3⟩, z4.at fun o e => y _ o e, z5.at fun o e => y _ o e, z6.at fun o e => y _ o e, z7.at fun o e => y _ o e⟩
  there := fun h x b hb => by
    obtain ⟨z1, z2, ⟨a, c, z3⟩, ⟨o1, z4, _⟩, ⟨o2, z5, _⟩, ⟨o3, z6, _⟩, ⟨o4, z7, _⟩⟩ := x
    simp only [List.mem_cons, List.not_mem_nil, or_false] at hb
    rcases hb with rfl | rfl | rfl | rfl | rfl | rfl | rfl
    · exact ⟨_, z1⟩
    · exact ⟨_, z2⟩
    · exact ⟨_, z3⟩
    · exact ⟨_, z4⟩
    · exact ⟨_, z5⟩
    · exact ⟨_, z6⟩
    · exact ⟨_, z7⟩
  sub := fun b hb => by
    simp only [List.mem_cons, List.not_mem_nil, or_false] at hb ⊢
    rcases hb with h | h | h | h <;> simp [h]
  noKeys := fun A s Q E no x h => getAttrOr_miss_zip x.1 rfl rfl rfl zip_no_keys (by decide +kernel) no h
  iter := fun A s d Q E no x hd nf h => by
    obtain ⟨z1, z2, ⟨a, b, z3⟩, z4, z5, z6, z7⟩ := x
    simp only [List.mem_cons, List.not_mem_nil, or_false, not_or] at nf
    obtain ⟨dq, dP, dO, d1, d2, d3, d4⟩ := nf
    refine wpAny_pyIter_zip z1 (h q [q, O, j1, j2] (At q P O j1 j2 t1 t2 d us vs) s.heap s.toks ?_ ⟨z2, z4, z5, z6, z7, .inl ⟨z1, a, b, z3⟩⟩ (fun _ _ e => e) fun b hb => .inl hb)
    refine { off := ?_, frame := ?_, item := ?_, done := ?_ }
    · intro hm
      simp only [List.mem_cons, List.not_mem_nil, or_false] at hm
      rcases hm with e | e | e | e
      · exact dq e
      · exact dO e
      · exact d1 e
      · exact d2 e
    · intro i h₁ h₂ st y
      obtain ⟨y2, y4, y5, y6, y7, yz⟩ := st
      refine ⟨y _ _ (Ne.symm dP) y2, y4.at fun o e => y _ o (Ne.symm d1) e, y5.at fun o e => y _ o (Ne.symm d2) e, y6.at fun o e => y _ o (Ne.symm d3) e, y7.at fun o e => y _ o (Ne.symm d4) e, ?_⟩
      rcases yz with ⟨y1, a, b, y3⟩ | ⟨T, f, oT, y1, hT, r1, r2, r3, r4⟩
      · exact .inl ⟨y _ _ (Ne.symm dq) y1, a, b, y _ _ (Ne.symm dO) y3⟩
      · exact .inr ⟨T, f, oT, y _ _ (Ne.symm dq) y1, y _ _ r4 hT, r1, r2, r3, r4⟩
    · intro i s₁ Q₁ E₁ hi st hds hQ
      obtain ⟨y2, y4, y5, y6, y7, yz⟩ := st
      have eu := Array.getElem?_eq_getElem hi
      have ev := Array.getElem?_eq_getElem (hl ▸ hi)
      have lt : ∀ {c o}, s₁.heap.get? c = some o → s₁.heap.objs.size ≠ c := fun e => Nat.ne_of_gt (Heap.lt_size e)
      have m1 : s₁.heap.objs.size ≠ j1 := let ⟨_, e, _⟩ := y4; lt e
      have m2 : s₁.heap.objs.size ≠ j2 := let ⟨_, e, _⟩ := y5; lt e
      rcases yz with ⟨y1, a, b, y3⟩ | ⟨T, f, oT, y1, hT, r1, r2, r3, r4⟩
      · refine pyNext_zipT_item D y1 y2 y3 y4 y5 y6 y7 eu ev fun g a1 a2 a3 a4 a5 a6 y => ?_
        refine hQ s₁.heap.objs.size _ _ g s₁.toks ⟨eu, ev⟩ (.inl ⟨_, a5, rfl, _, rfl⟩) ⟨y _ _ D.TIz D.TITO D.TIi1 D.TIi2 y2, a3, a4, y6.at fun o e => y _ o D.l1z D.l1TO D.l1i1 D.l1i2 e, y7.at fun o e => y _ o D.l2z D.l2TO D.l2i1 D.l2i2 e, .inr ⟨s₁.heap.objs.size, false, _, a1, a5, lt y1, m1, m2, Nat.ne_of_gt hds⟩⟩ ?_
        exact fun c o hc e => y c o (fun x => hc (by simp [x])) (fun x => hc (by simp [x])) (fun x => hc (by simp [x])) (fun x => hc (by simp [x])) e
      · refine py_held D y1 hT y2 y4 y5 y6 y7 eu ev fun g a1 a3 a4 a5 y => ?_
        refine hQ s₁.heap.objs.size _ _ g s₁.toks ⟨eu, ev⟩ (.inl ⟨_, a5, rfl, _, rfl⟩) ⟨y _ _ D.TIz D.TIi1 D.TIi2 y2, a3, a4, y6.at fun o e => y _ o D.l1z D.l1i1 D.l1i2 e, y7.at fun o e => y _ o D.l2z D.l2i1 D.l2i2 e, .inr ⟨T, true, oT, a1, y _ _ r1 r2 r3 hT, r1, r2, r3, r4⟩⟩ ?_
        exact fun c o hc e => y c o (fun x => hc (by simp [x])) (fun x => hc (by simp [x])) (fun x => hc (by simp [x])) e
    · intro s₁ Q₁ E₁ st hQ
      obtain ⟨y2, y4, y5, y6, y7, yz⟩ := st
      have en : us[us.size]? = none := Array.getElem?_eq_none (Nat.le_refl _)
      rcases yz with ⟨y1, a, b, y3⟩ | ⟨T, f, oT, y1, hT, r1, r2, r3, r4⟩
      · exact pyNext_zipT_end no D y1 y2 y3 y4 y5 y6 y7 (.inl en) fun g y => hQ g s₁.toks fun c o hc e => y c o (fun x => hc (by simp [x])) (fun x => hc (by simp [x])) (fun x => hc (by simp [x])) (fun x => hc (by simp [x])) e
      · exact py_end (vs := vs) (n2 := 0) no D y1 hT y2 y4 y6 en fun g y => hQ g s₁.toks fun c o hc e => y c o (fun x => hc (by simp [x])) (fun x => hc (by simp [x])) (fun x => hc (by simp [x])) e
end
end RZ
namespace L2
open PySem PySem.Spec PyProof.Rows
section
variable {X : Cx}
/-- sum(t) of a tuple of ints -/
def rSumT (K : PySem.W.Frag) : List V → Hp → VK → Prop := fun vs H Q => ∃ (a : Addr) (ns : List Int), vs = [V.ref a] ∧ SqT K H a (ns.map V.int) ∧ Q (.int ns.sum) H
theorem cr_sumT (hc : X.calm = true) : CallR X (.builtin "sum") (rSumT X.K) := by
  intro pins s σ H vs us Q I r h
  obtain ⟨a, ns, rfl, hs, q⟩ := h
  obtain ⟨its, rv, hl, _⟩ := I.tuple hs
  rw [Vals.ref1 r]
  have hi : IntsAre its ns := rv.ints
  obtain ⟨xs, hx⟩ := hi.allInts.items
  have hn : numsOf its.toArray.toList = ns := hi.numsOf
  have ht : s.heap.IsTuple a its.toArray := hl
  rw [hx] at ht hn
  rw [nums_intItems] at hn
  refine PySem.W.ktm_sumG (I.ok.hd hc) ht fun h' tk t' hk => ?_
  rw [preSum_eq, List.take_of_length_le (by simp), hn]
  exact ⟨.int _, H, I.kept hk, ⟨_, rfl⟩, q⟩
/-- d.update(e): another dict's pairs -/
def rUpd : V → List V → Hp → VK → Prop := fun x xs H Q => ∃ (a b : Addr) (kvs more : List (Key × V)), x = .ref a ∧ xs = [.ref b] ∧ H a = some (.dK kvs) ∧ H b = some (.dK more) ∧ a ≠ b ∧ kvs.length + more.length ≤ sizeLine ∧ Q .non (upd H a (.dK (mergeK kvs more)))
theorem mt_update : MtR X "dict.update" rUpd := by
  intro pins s σ H x xs v us Q I rx rxs h
  obtain ⟨a, b, kvs, more, rfl, rfl, ha, hb, ne, hz, q⟩ := h
  cases rx
  rw [Vals.ref1 rxs]
  obtain ⟨z1, m1, vs, r1, d1⟩ := dk_of I.hok ha
  obtain ⟨z2, m2, ws, r2, d2⟩ := dk_of I.hok hb
  refine call_meetsIn PySem.F.slot_dict_update d1.typeIs PySem.F.entry_dict_update (PySem.F.args_dict_update_2 _ _) (meets_dict_update (mixKind X.prog X.w) a b ne m2)
    ⟨vs, ws, d1, d2, (by rw [← r1.length, ← r2.length]; exact hz), fun h' e1 e2 hs => ?_⟩
  have he : ∃ q, h'.get? a = some q := let ⟨q, _, _, hq, _⟩ := e1; ⟨q, hq⟩
  refine ⟨.non, _, d_write I (by rw [ha]; exact True.intro) hs he (dk_new (Nat.le_trans (length_mergeK more kvs) hz) m1 (KV.merge r2 r1) e1), rfl, q⟩
/-- dict(zip(ks, vs)) of two tuples -/
def tDZ (K : PySem.W.Frag) (ta : TA) : TE := fun σ H Q => ta σ H fun vs H1 => ∃ (a b : Addr) (ks : List Key) (ys : List V), vs = [.ref a, .ref b] ∧ SqT K H1 a (ks.map kV) ∧ SqT K H1 b ys ∧ ks.length = ys.length ∧
  ∀ p, H1 p = none → Q (.ref p) (upd H1 p (.dK (mergeK [] (ks.zip ys))))
theorem kv_zip {P : Program} {w : World} : ∀ {ks : List Key} {us : List Value} {ys : List V} {zs : List Value}, Vals (ks.map kV) us → Vals ys zs → ks.length = ys.length →
    KV (ks.zip ys) (ks.zip zs) ∧ ∀ (i : Nat) (u z : Value), us[i]? = some u → zs[i]? = some z → ∃ k, (ks.zip zs)[i]? = some (k, z) ∧ (mixKind P w).is k u = true
  | [], us, [], zs, h1, h2, _ => by
    rw [List.map_nil] at h1
    cases h1
    cases h2
    exact ⟨.nil, fun i u z e _ => by simp at e⟩
  | k :: ks, us, y :: ys, zs, h1, h2, hl => by
    rw [List.map_cons] at h1
    cases h1 with
    | cons r1 t1 =>
      cases h2 with
      | cons r2 t2 =>
        obtain ⟨q1, q2⟩ := kv_zip (P := P) (w := w) t1 t2 (Nat.succ.inj hl)
        refine ⟨.cons ⟨rfl, r2⟩ q1, fun i u z e1 e2 => ?_⟩
        cases i with
        | zero => cases e1; cases e2; exact ⟨k, rfl, kV_is r1⟩
        | succ i => exact q2 i u z e1 e2
theorem pe_dictZip {e e2 : Expr} {ta : TA} {p p2 pos pos2 : Pos} (hc : X.calm = true) (hd : Gl X "dict") (md : X.mg "dict" = none) (hg : Gl X "zip") (hm : X.mg "zip" = none) (ha : PA X [e, e2] ta)
    (hs : starEach [e, e2] X.env = (false, eval e X.env) :: starEach [e2] X.env := by rfl) (hpl : (backTo pos (starEach [e2] X.env)).any (·.1) = false := by rfl)
    (hs1 : starEach [Expr.Call (.Name "zip" p) [e, e2] [] pos] X.env = (false, eval (.Call (.Name "zip" p) [e, e2] [] pos) X.env) :: starEach [] X.env := by rfl) (hpl1 : (backTo pos2 (starEach [] X.env)).any (·.1) = false := by rfl) :
    PE X (.Call (.Name "dict" p2) [.Call (.Name "zip" p) [e, e2] [] pos] [] pos2) (tDZ X.K ta) := by
  refine ⟨fun pins s σ H Q I h => ?_⟩
  refine Call_ (ld_blt (u := .type "dict") I hd md (by decide +kernel) (PyProof.Rows.callWith_type1 ?_ hs1 hpl1))
  rw [hs1]
  refine Calls.spliced_cons ?_
  refine Call_ (ld_blt I hg hm PyProof.Rows.boot_zip (PyProof.Rows.callWith_type1 (thn (ha.run pos pins s σ H _ I h) fun us s1 ⟨vs, H1, I1, r1, q1⟩ => ?_) hs hpl))
  obtain ⟨a, b, ks, ys, rfl, ga, gb, hl, q⟩ := q1
  obtain ⟨u1, u2, rfl, x1, x2⟩ := vals2 r1
  cases x1
  cases x2
  obtain ⟨its, rv, p1, _⟩ := I1.tuple ga
  obtain ⟨its2, rv2, p2, z2⟩ := I1.tuple gb
  obtain ⟨o1, ho1, _⟩ := id p1
  obtain ⟨o2, ho2, _⟩ := id p2
  have t1 : s1.heap.IsTuple a its.toArray := p1
  have t2 : s1.heap.IsTuple b its2.toArray := p2
  have l1 := rv.length
  have l2 := rv2.length
  rw [List.length_map] at l1
  refine RZ.call_zipT t1 t2 fun h' hz hTI hTO h1 h2 hsz hk => Calls.spliced_nil ?_
  have I2 : Inv X pins σ H1 { s1 with heap := h' } := I1.kept (t' := s1.toks) hk
  obtain ⟨kv, hp⟩ := kv_zip (P := X.prog) (w := X.w) rv rv2 hl
  have D := PySem.W.ktu_apart s1.heap.objs.size a b (Heap.lt_size ho1) (Heap.lt_size ho2)
  have sz : its.toArray.size = its2.toArray.size := by simp; omega
  refine PySem.call_dict_pairs (knd := mixKind X.prog X.w) (kvs := ks.zip its2) (RZ.zipArg _ _ _ _ _ a b D its.toArray its2.toArray sz) (I.ok.hd hc) ⟨hz, hTI, ⟨_, _, hTO⟩, h1, h2, t1.at fun o e => hk _ _ e, t2.at fun o e => hk _ _ e⟩ ⟨by simp; omega, fun i k v r => ?_⟩ (by simp; omega) fun h'' tk dd y => ?_
  · exact hp i k v (by simpa using r.1) (by simpa using r.2)
  · have fresh : s1.heap.objs.size ≤ h'.objs.size := by omega
    have hm : (h'.objs.size == sysModules) = false := beq_eq_false_iff_ne.mpr (Nat.ne_of_gt (Nat.lt_of_lt_of_le I1.big fresh))
    have hlen : (mergeK [] (ks.zip ys)).length ≤ sizeLine := by
      refine Nat.le_trans (length_mergeK _ []) ?_
      have z3 : ys.length ≤ sizeLine := by simpa using z2
      rw [List.length_nil, Nat.zero_add, List.length_zip]
      exact Nat.le_trans (Nat.min_le_right _ _) z3
    have kk : ∀ b u, s1.heap.get? b = some u → h''.get? b = some u := fun c o e => y c o (fun hb => by
      have lt := Heap.lt_size e
      simp only [List.mem_cons, List.not_mem_nil, or_false] at hb
      rcases hb with z | z | z | z
      · rw [z] at lt; exact absurd lt (Nat.not_lt.mpr (Nat.le_add_right _ _))
      · rw [z] at lt; exact absurd lt (Nat.not_lt.mpr (Nat.le_add_right _ _))
      · rw [z] at lt; exact absurd lt (Nat.lt_irrefl _)
      · rw [z] at lt; exact absurd lt (Nat.not_lt.mpr (Nat.le_add_right _ _))) (hk c o e)
    exact ⟨.ref h'.objs.size, upd H1 h'.objs.size (.dK (mergeK [] (ks.zip ys))), I1.laid (t' := tk) kk fresh (show ObjOk X.prog X.w _ _ _ (.dK (mergeK [] (ks.zip ys))) from ⟨hlen, hm, merged [] (ks.zip its2), KV.merge kv .nil, dd⟩), rfl, q _ (I1.hok.fresh fresh)⟩
end
end L2
namespace IdL
open PySem L2 TL
/-- as pe_fld, where the written part is to be said (in a comprehension) -/
theorem pe_fldK {X : Cx} {e : Expr} {f : Str} {pos : Pos} {ta : TE} (K : PySem.W.Frag) (hK : X.K = K) (he : PE X e ta) (hb : attributeBase e f X.env (eval e X.env) = eval e X.env) : PE X (.Attribute e f pos) (tFld K ta f) := by
  subst hK
  exact pe_fld he hb
/-! ### numbers, cases -/
/-- what the built-in names stand for -/
structure Gv (mg : Str → Option Value) : Prop where
  len : mg "len" = none
  int : mg "int" = none
  bool : mg "bool" = none
  tuple : mg "tuple" = none
  list : mg "list" = none
  dict : mg "dict" = none
  zip : mg "zip" = none
  isinstance : mg "isinstance" = none
  isi : mg "isinstance" = none
  sum : mg "sum" = none
  all : mg "all" = none
  range : mg "range" = none
  enum : mg "enumerate" = none
abbrev sWhole : Stmt := top 2
abbrev sFrom : Stmt := top 3
abbrev sBetw : Stmt := top 4
abbrev sAl : Stmt := top 6
abbrev sBc : Stmt := top 7
abbrev sFo : Stmt := top 8
abbrev sSo : Stmt := top 9
abbrev sPb : Stmt := top 11
abbrev sPo : Stmt := top 12
abbrev sCk : Stmt := top 56
abbrev sKr : Stmt := inClass (top 96) 1
abbrev sIu : Stmt := inClass (top 96) 2
theorem scWhole : FnScope ["value"] ["value"] (defScope sWhole) := ⟨rfl, rfl, rfl, by decide +kernel, rfl, by decide +kernel, by decide +kernel⟩
theorem scFrom : FnScope ["value", "least"] ["value", "least"] (defScope sFrom) := ⟨rfl, rfl, rfl, by decide +kernel, rfl, by decide +kernel, by decide +kernel⟩
theorem scBetw : FnScope ["value", "least", "most"] ["value", "least", "most"] (defScope sBetw) := ⟨rfl, rfl, rfl, by decide +kernel, rfl, by decide +kernel, by decide +kernel⟩
def NAl : List Str := ["value", "length"]
theorem scAl : FnScope NAl ["value"] (defScope sAl) := ⟨rfl, rfl, rfl, by decide +kernel, rfl, by decide +kernel, by decide +kernel⟩
def NBc : List Str := ["rules", "kind", "case", "size", "place", "done", "more", "own"]
theorem scBc : FnScope NBc ["rules", "kind", "case"] (defScope sBc) := ⟨rfl, rfl, rfl, by decide +kernel, rfl, by decide +kernel, by decide +kernel⟩
def NFo : List Str := ["case", "size", "place", "done", "more", "own"]
theorem scFo : FnScope NFo ["case"] (defScope sFo) := ⟨rfl, rfl, rfl, by decide +kernel, rfl, by decide +kernel, by decide +kernel⟩
def NPb : List Str := ["size", "place", "many", "k"]
theorem scPb : FnScope NPb ["size", "place", "many"] (defScope sPb) := ⟨rfl, rfl, rfl, by decide +kernel, rfl, by decide +kernel, by decide +kernel⟩
theorem scPo : FnScope NPb ["size", "place", "many"] (defScope sPo) := ⟨rfl, rfl, rfl, by decide +kernel, rfl, by decide +kernel, by decide +kernel⟩
theorem scCk : FnScope ["size"] ["size"] (defScope sCk) := ⟨rfl, rfl, rfl, by decide +kernel, rfl, by decide +kernel, by decide +kernel⟩
theorem scKr : FnScope ["self", "size"] ["self", "size"] (defScope sKr) := ⟨rfl, rfl, rfl, by decide +kernel, rfl, by decide +kernel, by decide +kernel⟩
theorem scIu : FnScope ["self", "size"] ["self", "size"] (defScope sIu) := ⟨rfl, rfl, rfl, by decide +kernel, rfl, by decide +kernel, by decide +kernel⟩
structure FWhole (K : PySem.W.Frag) (mg : Str → Option Value) (f : Addr) (d : FuncData) : Prop where
  u : Fun K "is_whole" "is_whole" sWhole f d
  b : Binds K d ["value"] []
  g : mg "is_whole" = some (.ref f)
structure FFrom (K : PySem.W.Frag) (mg : Str → Option Value) (f : Addr) (d : FuncData) : Prop where
  u : Fun K "is_from" "is_from" sFrom f d
  b : Binds K d ["value", "least"] []
  g : mg "is_from" = some (.ref f)
structure FBetw (K : PySem.W.Frag) (mg : Str → Option Value) (f : Addr) (d : FuncData) : Prop where
  u : Fun K "is_between" "is_between" sBetw f d
  b : Binds K d ["value", "least", "most"] []
  g : mg "is_between" = some (.ref f)
structure FAl (K : PySem.W.Frag) (mg : Str → Option Value) (f : Addr) (d : FuncData) : Prop where
  u : Fun K "are_lengths" "are_lengths" sAl f d
  b : Binds K d ["value"] []
  g : mg "are_lengths" = some (.ref f)
structure FBc (K : PySem.W.Frag) (mg : Str → Option Value) (f : Addr) (d : FuncData) : Prop where
  u : Fun K "is_book_case" "is_book_case" sBc f d
  b : Binds K d ["rules", "kind", "case"] []
  g : mg "is_book_case" = some (.ref f)
structure FFo (K : PySem.W.Frag) (mg : Str → Option Value) (f : Addr) (d : FuncData) : Prop where
  u : Fun K "fields_of" "fields_of" sFo f d
  b : Binds K d ["case"] []
  g : mg "fields_of" = some (.ref f)
structure FCk (K : PySem.W.Frag) (mg : Str → Option Value) (f : Addr) (d : FuncData) : Prop where
  u : Fun K "check_size" "check_size" sCk f d
  b : Binds K d ["size"] []
  g : mg "check_size" = some (.ref f)
structure FPb (K : PySem.W.Frag) (mg : Str → Option Value) (f : Addr) (d : FuncData) : Prop where
  u : Fun K "places_back" "places_back" sPb f d
  b : Binds K d ["size", "place", "many"] []
  g : mg "places_back" = some (.ref f)
structure FPo (K : PySem.W.Frag) (mg : Str → Option Value) (f : Addr) (d : FuncData) : Prop where
  u : Fun K "places_on" "places_on" sPo f d
  b : Binds K d ["size", "place", "many"] []
  g : mg "places_on" = some (.ref f)
def spWh : Sp := fun vs H Q _ => ∃ i : Int, vs = [.int i] ∧ Q (.bl true) H
def spFr : Sp := fun vs H Q _ => ∃ i l : Int, vs = [.int i, .int l] ∧ Q (.bl (decide (l ≤ i))) H
def spBw : Sp := fun vs H Q _ => ∃ i l m : Int, vs = [.int i, .int l, .int m] ∧ Q (.bl (decide (l ≤ i) && decide (i ≤ m))) H
def spAl (K : PySem.W.Frag) : Sp := fun vs H Q _ => ∃ (p : Addr) (ns : List Int), vs = [.ref p] ∧ SqT K H p (ns.map V.int) ∧ ns.length ≤ 1000 ∧ (∀ n ∈ ns, 1 ≤ n) ∧ ∀ H', Same H H' → Q (.bl true) H'
/-- a case -/
structure Cs where
  sz : Int
  pl : Int
  dn : List Int
  mo : List Int
  ow : Int
structure CsAt (K : PySem.W.Frag) (H : Hp) (v : V) (c : Cs) : Prop where
  ex : ∃ p d m : Addr, v = .ref p ∧ SqT K H p [.int c.sz, .int c.pl, .ref d, .ref m, .int c.ow] ∧ SqT K H d (c.dn.map V.int) ∧ SqT K H m (c.mo.map V.int)
theorem CsAt.keep {K : PySem.W.Frag} {H H' : Hp} {v : V} {c : Cs} (h : CsAt K H v c) (k : KeepT H H') : CsAt K H' v c := by
  obtain ⟨p, d, m, e, h1, h2, h3⟩ := h.ex
  exact ⟨p, d, m, e, k.seq h1, k.seq h2, k.seq h3⟩
/-- what is asked of a case, by rules that keep t * size + m rows -/
structure CsOk (t m : Int) (kd : Str) (c : Cs) : Prop where
  s1 : 1 ≤ c.sz
  s2 : c.sz ≤ 1000000
  u1 : 1 ≤ t * c.sz + m
  u2 : t * c.sz + m ≤ c.sz
  p0 : 0 ≤ c.pl
  p1 : c.pl ≤ c.sz - 1
  d1 : ∀ n ∈ c.dn, 1 ≤ n
  m1 : ∀ n ∈ c.mo, 1 ≤ n
  o0 : 0 ≤ c.ow
  o1 : 0 < c.ow → c.mo = [] ∧ kd ≠ "undo" ∧ kd ≠ "redo"
  su : c.dn.sum + c.mo.sum + c.ow ≤ t * c.sz + m
  ld : c.dn.length ≤ 1000
  lm : c.mo.length ≤ 1000
  t0 : -10 ≤ t
  t1 : t ≤ 10
def spCk : Sp := fun vs H Q _ => ∃ i : Int, vs = [.int i] ∧ 1 ≤ i ∧ Q .non H
def spKr (CC : Addr) : Sp := fun vs H Q _ => ∃ (x : Addr) (i : Int) (z : Str) (t m : Int), vs = [.ref x, .int i] ∧ RulAt H x CC z t m ∧ 1 ≤ i ∧ -10 ≤ t ∧ t ≤ 10 ∧ Q (.int (t * i + m)) H
def spIu (CC : Addr) : Sp := fun vs H Q _ => ∃ (x : Addr) (i : Int) (z : Str) (t m : Int), vs = [.ref x, .int i] ∧ RulAt H x CC z t m ∧ 1 ≤ i ∧ -10 ≤ t ∧ t ≤ 10 ∧ Q (.bl (decide (1 ≤ t * i + m) && decide (t * i + m ≤ i))) H
def spBc (K : PySem.W.Frag) (CC : Addr) : Sp := fun vs H Q _ => ∃ (x : Addr) (kd z : Str) (t m : Int) (cv : V) (c : Cs), vs = [.ref x, .str kd, cv] ∧ RulAt H x CC z t m ∧ CsAt K H cv c ∧ CsOk t m kd c ∧ ∀ H', Same H H' → Q (.bl true) H'
def fieldsC (c : Cs) : List Int := [c.pl, c.dn.sum + c.ow, c.mo.sum, c.ow, (c.pl - c.ow) % c.sz]
def spFo (K : PySem.W.Frag) : Sp := fun vs H Q _ => ∃ (cv : V) (c : Cs), vs = [cv] ∧ CsAt K H cv c ∧ 1 ≤ c.sz ∧ ∀ (p : Addr) H', H p = none → Same H H' → H' p = some (.tup ((fieldsC c).map V.int)) → Q (.ref p) H'
def backL (sz pl : Int) (n : Nat) : List Int := (List.range n).map fun (k : Nat) => (pl - 1 - (k : Int)) % sz
def onL (sz pl : Int) (n : Nat) : List Int := (List.range n).map fun (k : Nat) => (pl + (k : Int)) % sz
def spPb : Sp := fun vs H Q _ => ∃ (sz pl : Int) (n : Nat), vs = [.int sz, .int pl, .int (n : Int)] ∧ 1 ≤ sz ∧ n ≤ 1000000 ∧ ∀ (p : Addr) H', H p = none → Same H H' → H' p = some (.tup ((backL sz pl n).map V.int)) → Q (.ref p) H'
def spPo : Sp := fun vs H Q _ => ∃ (sz pl : Int) (n : Nat), vs = [.int sz, .int pl, .int (n : Int)] ∧ 1 ≤ sz ∧ n ≤ 1000000 ∧ ∀ (p : Addr) H', H p = none → Same H H' → H' p = some (.tup ((onL sz pl n).map V.int)) → Q (.ref p) H'
section
variable {P : Program} {w : World} {K : PySem.W.Frag} {mg : Str → Option Value} {base : Heap}
theorem ok_wh {f : Addr} {fd : FuncData} (F : Fun K "is_whole" "is_whole" sWhole f fd) (T : Gv mg) : FnOk P w K mg base CX0 1 f fd ["value"] spWh := by
  refine F.ok scWhole (fun vs H Q E h => ?_) (fun cdv A outer s H vs Q E hr h => ?_)
  · obtain ⟨v, rfl, _⟩ := h
    rfl
  · obtain ⟨i, rfl, k⟩ := h
    refine ⟨_, (pss_one (ps_ret (pe_and (pe_callB call_isi (by rfl) T.isi (by decide +kernel) (pa_cons (pv 0) (pa_cons (pe_bltn (v := .ty "int") rfl T.int (by decide +kernel) rfl) pa_nil))) (pe_one (pe_not (pe_callB call_isi (by rfl) T.isi (by decide +kernel) (pa_cons (pv 0) (pa_cons (pe_bltn (v := .ty "bool") rfl T.bool (by decide +kernel) rfl) pa_nil)))))))), ?_⟩
    exact ⟨_, rfl, .int i, .ty "int", .type "int", .type "int", true, rfl, .ty _, .base (.int i), kit_ty (by decide +kernel), _, rfl, iteT ⟨_, rfl, .int i, .ty "bool", .type "int", .type "bool", false, rfl, .ty _, .base (.int i), kit_ty (by decide +kernel), _, rfl, k⟩⟩
theorem ok_fr {f fW : Addr} {fd dW : FuncData} (F : Fun K "is_from" "is_from" sFrom f fd) (W : FWhole K mg fW dW) (OW : FnOk P w K mg base CX0 1 fW dW ["value"] spWh) : FnOk P w K mg base CX0 2 f fd ["value", "least"] spFr := by
  refine F.ok scFrom (fun vs H Q E h => ?_) (fun cdv A outer s H vs Q E hr h => ?_)
  · obtain ⟨v, l, rfl, _⟩ := h
    rfl
  · obtain ⟨i, l, rfl, k⟩ := h
    refine ⟨_, (pss_one (ps_ret (pe_and (pe_call OW hr rfl W.g W.u.kp W.b .nil pass0 (pa_cons (pv 0) pa_nil)) (pe_one (pe_cmpR op_ge (pv 0) (pv 1) (nomark _)))))), ?_⟩
    exact ⟨_, rfl, i, rfl, _, rfl, iteT ⟨_, rfl, _, rfl, _, _, rfl, rfl, k⟩⟩
theorem ok_bw {f fW : Addr} {fd dW : FuncData} (F : Fun K "is_between" "is_between" sBetw f fd) (W : FWhole K mg fW dW) (OW : FnOk P w K mg base CX0 1 fW dW ["value"] spWh) : FnOk P w K mg base CX0 2 f fd ["value", "least", "most"] spBw := by
  refine F.ok scBetw (fun vs H Q E h => ?_) (fun cdv A outer s H vs Q E hr h => ?_)
  · obtain ⟨i, l, m, rfl, _⟩ := h
    rfl
  · obtain ⟨i, l, m, rfl, k⟩ := h
    refine ⟨_, (pss_one (ps_ret (pe_and (pe_call OW hr rfl W.g W.u.kp W.b .nil pass0 (pa_cons (pv 0) pa_nil)) (pe_one (pe_chain op_le op_le (pv 1) (pv 0) (pv 2)))))), ?_⟩
    refine ⟨_, rfl, i, rfl, _, rfl, iteT ?_⟩
    refine ⟨_, rfl, _, rfl, _, _, rfl, rfl, _, rfl, ?_⟩
    by_cases h : l ≤ i
    · rw [decide_eq_true h, Bool.true_and] at k
      exact iteY h ⟨_, rfl, _, _, rfl, rfl, k⟩
    · rw [decide_eq_false h, Bool.false_and] at k
      exact iteN h k
theorem ok_ck {f fF CS iS : Addr} {fd dF : FuncData} (F : Fun K "check_size" "check_size" sCk f fd) (F2 : FFrom K mg fF dF) (OF : FnOk P w K mg base CX0 2 fF dF ["value", "least"] spFr) (BS : BErr P K mg "BadSize" "BadSize.__init__" (inClass (top 23) 0) ["size"] CS iS) (su : mg "super" = none) :
    FnOk P w K mg base (CX P w) 3 f fd ["size"] spCk := by
  refine F.okX scCk (fun vs H Q E h => ?_) (fun cdv A outer s H vs Q E hr h => ?_)
  · obtain ⟨n, rfl, _⟩ := h
    rfl
  · obtain ⟨n, rfl, n1, k⟩ := h
    refine ⟨_, (pss_one (ps_if (pt_not (pt_val (pe_call OF hr rfl F2.g F2.u.kp F2.b .nil pass0 (pa_cons (pv 0) (pa_cons pe_int pa_nil))))) (pss_one (ps_raise rfl (takes_of rfl rfl rfl rfl) (pmk_err BS.T BS.F (by decide) BS.g su hr (pa_cons (pv 0) pa_nil)))) pss_nil)), ?_⟩
    refine ⟨_, rfl, n, 1, rfl, _, rfl, ?_⟩
    rw [decide_eq_true n1]
    exact iteF k
theorem ok_kr {f fC CC : Addr} {fd dC : FuncData} (F : Fun K "kept_rows" "BookRules.kept_rows" sKr f fd) (C : FCk K mg fC dC) (OC : FnOk P w K mg base (CX P w) 3 fC dC ["size"] spCk) (O : OBk K CC) : FnOk P w K mg base (CX P w) 4 f fd ["self", "size"] (spKr CC) := by
  refine F.okX scKr (fun vs H Q E h => ?_) (fun cdv A outer s H vs Q E hr h => ?_)
  · obtain ⟨x, i, z, t, m, rfl, _⟩ := h
    rfl
  · obtain ⟨x, i, z, t, m, rfl, ⟨dx, hx⟩, hi, t0, t1, k⟩ := h
    refine ⟨_, (pss_cons (ps_expr (pe_call OC hr rfl C.g C.u.kp C.b .nil (passes_call (takes_of rfl rfl rfl rfl) fun _ _ _ _ z => z) (pa_cons (pv 1) pa_nil)))
 (pss_one (ps_ret (pe_op op_add (pe_op op_mul (pe_fld (pv 0) rfl) (pv 1)) (pe_fld (pv 0) rfl))))), ?_⟩
    exact ⟨_, rfl, i, rfl, hi, _, rfl, x, CC, dx, _, .int t, rfl, hx, O.cl, O.no "times" (by decide +kernel), rfl, _, rfl, _, _, rfl, rfl, .inl ⟨by omega, by omega⟩, _, rfl, x, CC, dx, _, .int m, rfl, hx, O.cl, O.no "more" (by decide +kernel), rfl, _, _, rfl, rfl, k⟩
theorem ok_iu {f fK CC : Addr} {fd dK : FuncData} (F : Fun K "in_use" "BookRules.in_use" sIu f fd) (M : Meth K CC "kept_rows" fK) (bK : Binds K dK ["self", "size"] []) (OK : FnOk P w K mg base (CX P w) 4 fK dK ["self", "size"] (spKr CC)) (O : OBk K CC) : FnOk P w K mg base (CX P w) 5 f fd ["self", "size"] (spIu CC) := by
  refine F.okX scIu (fun vs H Q E h => ?_) (fun cdv A outer s H vs Q E hr h => ?_)
  · obtain ⟨x, i, z, t, m, rfl, _⟩ := h
    rfl
  · obtain ⟨x, i, z, t, m, rfl, ⟨dx, hx⟩, hi, t0, t1, k⟩ := h
    refine ⟨_, (pss_one (ps_ret (pe_chain op_le op_le pe_int (pe_meth (pv 0) O.cl M OK hr bK .nil (passes_call (takes_of rfl rfl rfl rfl) fun _ _ _ _ z => z) (pa_cons (pv 1) pa_nil)) (pv 1)))), ?_⟩
    refine ⟨_, rfl, x, dx, _, rfl, hx, rfl, _, rfl, x, i, z, t, m, rfl, ⟨dx, hx⟩, hi, t0, t1, ?_⟩
    refine ⟨_, _, rfl, rfl, _, rfl, ?_⟩
    by_cases h : 1 ≤ t * i + m
    · rw [decide_eq_true h, Bool.true_and] at k
      exact iteY h ⟨_, rfl, _, _, rfl, rfl, k⟩
    · rw [decide_eq_false h, Bool.false_and] at k
      exact iteN h k
end
end IdL
namespace IdL
open PySem L2 TL
theorem SqT.ty {K : PySem.W.Frag} {H : Hp} {a : Addr} {xs : List V} (h : SqT K H a xs) : TyX K H (.ref a) (.type "tuple") := by
  rcases h with (h | ⟨o, h⟩) | ⟨o, its, n, h1, h2, _⟩
  · exact .base (.tup h)
  · exact .fTuple h
  · exact .kTuple h1 h2
theorem fm {a b : Int} (h : 1 ≤ b) : a.fmod b = a % b := Int.fmod_eq_emod_of_nonneg a (by omega)
theorem take_snoc'' {α : Type} {l : List α} {i : Nat} {x : α} (h : l[i]? = some x) : l.take (i + 1) = l.take i ++ [x] := by
  rw [List.take_add_one, h]; rfl
theorem sum_pos : ∀ {l : List Int}, (∀ n ∈ l, 1 ≤ n) → 0 ≤ l.sum
  | [], _ => Int.le_refl _
  | n :: l, h => by
    have h1 := h n (List.mem_cons_self ..)
    have h2 := sum_pos (l := l) fun m hm => h m (List.mem_cons_of_mem _ hm)
    rw [List.sum_cons]; omega
section
variable {P : Program} {w : World} {K : PySem.W.Frag} {mg : Str → Option Value} {base : Heap}
theorem ok_al {f fF : Addr} {fd dF : FuncData} (F : Fun K "are_lengths" "are_lengths" sAl f fd) (F2 : FFrom K mg fF dF) (OF : FnOk P w K mg base CX0 2 fF dF ["value", "least"] spFr) (T : Gv mg) : FnOk P w K mg base CX0 3 f fd ["value"] (spAl K) := by
  refine F.ok scAl (fun vs H Q E h => ?_) (fun cdv A outer s H vs Q E hr h => ?_)
  · obtain ⟨p, ns, rfl, _⟩ := h
    rfl
  · obtain ⟨p, ns, rfl, hp, hl, h1, k⟩ := h
    refine ⟨_, (pss_one (ps_ret (pe_and (pe_callB call_isi (by rfl) T.isi (by decide +kernel) (pa_cons (pv 0) (pa_cons (pe_bltn (v := .ty "tuple") rfl T.tuple (by decide +kernel) rfl) pa_nil))) (pe_one (pe_callB (cr_all rfl) (by rfl) T.all (by decide +kernel) (pa_cons (pe_lc (own := [("length", 1)]) (g := (gName 1)) (by rfl) scAl.nd (pi_tup (pv 0)) (blkOk_by (N := NAl) (sc := defScope sAl) (by decide +kernel)) (fun _ _ _ _ _ => (pg_name (i := 1) scAl.nd rfl (.inl rfl))) (fun _ _ _ _ _ => pts_nil) (fun _ _ _ _ _ => (pe_call OF hr rfl F2.g F2.u.kp F2.b .nil pass0 (pa_cons (pv 1) (pa_cons pe_int pa_nil))))) pa_nil)))))), ?_⟩
    refine ⟨_, rfl, .ref p, .ty "tuple", .type "tuple", .type "tuple", true, rfl, .ty _, SqT.ty hp, kit_ty (by decide +kernel), _, rfl, iteT ?_⟩
    refine ⟨_, rfl, p, rfl, ⟨_, hp⟩, fun D hD => lc_tup (K := K) (a := p) (xs := ns.map V.int) (fun i G => Same H G ∧ G D = some (.lst ((List.replicate i true).map V.bl))) ⟨same_new hD, upd_same⟩ (fun i G _ ⟨s, _⟩ => Same.tup s hp) ?_ ?_⟩
    · rintro i y G hi ⟨sG, hG⟩
      rw [List.getElem?_map] at hi
      obtain ⟨n, hn, rfl⟩ := Option.map_eq_some_iff.mp hi
      have li := (List.getElem?_eq_some_iff.mp hn).1
      refine ⟨rfl, _, rfl, n, 1, rfl, ?_⟩
      rw [decide_eq_true (h1 n (List.mem_of_getElem? hn))]
      refine ⟨_, hG, (by rw [List.length_map, List.length_replicate, sizeLine_eq]; omega), fun c o e => ?_, ?_⟩
      · rw [upd_ne (fun y => by rw [y, hD] at e; cases e)]; exact sG _ _ e
      · rw [upd_same, List.replicate_succ', List.map_append]; rfl
    · rintro G ⟨sG, hG⟩
      refine ⟨D, _, rfl, SqL.of hG, ?_⟩
      rw [show (List.replicate (ns.map V.int).length true).all id = true from List.all_eq_true.mpr fun b hb => by rw [List.eq_of_mem_replicate hb]; rfl]
      exact k G sG
theorem ok_bc {f fA fF fB fU fK CC : Addr} {fd dA dF dB dU dK : FuncData} (F : Fun K "is_book_case" "is_book_case" sBc f fd) (F2 : FFrom K mg fF dF) (OF : FnOk P w K mg base CX0 2 fF dF ["value", "least"] spFr) (BT : FBetw K mg fB dB) (OB : FnOk P w K mg base CX0 2 fB dB ["value", "least", "most"] spBw)
    (AL : FAl K mg fA dA) (OA : FnOk P w K mg base CX0 3 fA dA ["value"] (spAl K)) (MU : Meth K CC "in_use" fU) (bU : Binds K dU ["self", "size"] []) (OU : FnOk P w K mg base (CX P w) 5 fU dU ["self", "size"] (spIu CC)) (MK : Meth K CC "kept_rows" fK) (bK : Binds K dK ["self", "size"] []) (OK : FnOk P w K mg base (CX P w) 4 fK dK ["self", "size"] (spKr CC)) (O : OBk K CC) (T : Gv mg) :
    FnOk P w K mg base (CX P w) 6 f fd ["rules", "kind", "case"] (spBc K CC) := by
  refine F.okX scBc (fun vs H Q E h => ?_) (fun cdv A outer s H vs Q E hr h => ?_)
  · obtain ⟨x, kd, z, t, m, cv, c, rfl, _⟩ := h
    rfl
  · obtain ⟨x, kd, z, t, m, cv, c, rfl, hx, CA, C, k⟩ := h
    have hr2 := hr.mono (show 2 ≤ 5 by decide)
    have hr3 := hr.mono (show 3 ≤ 5 by decide)
    have hr4 := hr.mono (show 4 ≤ 5 by decide)
    refine ⟨_, (pss_cons (ps_if (PW.pt (pw_or (pt_not (pt_val (pe_callB call_isi (by rfl) T.isi (by decide +kernel) (pa_cons (pv 2) (pa_cons (pe_bltn (v := .ty "tuple") rfl T.tuple (by decide +kernel) rfl) pa_nil))))) (pw_or1 (pt_cmpR op_ne (pe_callB call_len_seq (by rfl) T.len PySem.boot_len (pa_cons (pv 2) pa_nil)) pe_int (nomark _))))) (pss_one (ps_ret pe_bl)) pss_nil)
 (pss_cons (ps_asg (pv 2) (pg_tup rfl (pgs_cons (pg_name (i := 3) scBc.nd rfl (.inl rfl)) (pgs_cons (pg_name (i := 4) scBc.nd rfl (.inl rfl)) (pgs_cons (pg_name (i := 5) scBc.nd rfl (.inl rfl)) (pgs_cons (pg_name (i := 6) scBc.nd rfl (.inl rfl)) (pgs_cons (pg_name (i := 7) scBc.nd rfl (.inl rfl)) pgs_nil)))))))
 (pss_cons (ps_if (PW.pt (pw_or (pt_not (pt_val (pe_call OF hr2 rfl F2.g F2.u.kp F2.b .nil pass0 (pa_cons (pv 3) (pa_cons pe_int pa_nil))))) (pw_or (pt_not (pt_val (pe_meth (pv 0) O.cl MU OU hr bU .nil (passes_call (takes_of rfl rfl rfl rfl) fun _ _ _ _ z => z) (pa_cons (pv 3) pa_nil)))) (pw_or1 (pt_not (pt_val (pe_call OB hr2 rfl BT.g BT.u.kp BT.b .nil pass0 (pa_cons (pv 4) (pa_cons pe_int (pa_cons (pe_op op_sub (pv 3) pe_int) pa_nil)))))))))) (pss_one (ps_ret pe_bl)) pss_nil)
 (pss_cons (ps_if (PW.pt (pw_or (pt_not (pt_val (pe_call OA hr3 rfl AL.g AL.u.kp AL.b .nil pass0 (pa_cons (pv 5) pa_nil)))) (pw_or (pt_not (pt_val (pe_call OA hr3 rfl AL.g AL.u.kp AL.b .nil pass0 (pa_cons (pv 6) pa_nil)))) (pw_or1 (pt_not (pt_val (pe_call OF hr2 rfl F2.g F2.u.kp F2.b .nil pass0 (pa_cons (pv 7) (pa_cons pe_int pa_nil))))))))) (pss_one (ps_ret pe_bl)) pss_nil)
 (pss_cons (ps_if (PW.pt (pw_and (pt_cmpR op_gt (pv 7) pe_int (nomark _)) (pw_and1 (PW.pt (pw_or (pt_truth (pv 6) (by intro _; rfl)) (pw_or1 (pt_cmpR op_in_seq (pv 1) (pe_tup (pa_cons pe_str (pa_cons pe_str pa_nil))) (by rfl)))))))) (pss_one (ps_ret pe_bl)) pss_nil)
 (pss_one (ps_ret (pe_cmpR op_le (pe_op op_add (pe_op op_add (pe_callB (cr_sumT rfl) (by rfl) T.sum (by decide +kernel) (pa_cons (pv 5) pa_nil)) (pe_callB (cr_sumT rfl) (by rfl) T.sum (by decide +kernel) (pa_cons (pv 6) pa_nil))) (pv 7)) (pe_meth (pv 0) O.cl MK OK hr4 bK .nil (passes_call (takes_of rfl rfl rfl rfl) fun _ _ _ _ z => z) (pa_cons (pv 3) pa_nil)) (nomark _))))))))), ?_⟩
    obtain ⟨p, d, mm, rfl, h1, h2, h3⟩ := CA.ex
    obtain ⟨s1, s2, u1, u2, p0, p1, d1, m1, o0, o1, su, ld, lm, t0, t1⟩ := C
    obtain ⟨dx, hxr⟩ := hx
    refine ⟨_, rfl, .ref p, .ty "tuple", .type "tuple", .type "tuple", true, rfl, .ty _, SqT.ty h1, kit_ty (by decide +kernel), _, rfl, ?_⟩
    refine iteF ⟨_, rfl, p, _, rfl, .inr h1, rfl, _, rfl, iteNS rfl ?_⟩
    refine ⟨_, rfl, p, _, rfl, h1, rfl, _, _, rfl, _, _, rfl, _, _, rfl, _, _, rfl, _, _, rfl, rfl, ?_⟩
    refine ⟨_, rfl, c.sz, 1, rfl, _, rfl, ?_⟩
    rw [decide_eq_true s1]
    refine iteF ⟨_, rfl, x, dx, _, rfl, hxr, rfl, _, rfl, x, c.sz, z, t, m, rfl, ⟨dx, hxr⟩, s1, t0, t1, _, rfl, ?_⟩
    rw [decide_eq_true u1, decide_eq_true u2]
    refine iteF ⟨_, rfl, _, rfl, _, _, rfl, rfl, c.pl, 0, c.sz - 1, rfl, _, rfl, ?_⟩
    rw [decide_eq_true p0, decide_eq_true p1]
    refine iteF ?_
    refine ⟨_, rfl, d, c.dn, rfl, h2, ld, d1, fun H1 z1 => ⟨_, rfl, iteF ?_⟩⟩
    refine ⟨_, rfl, mm, c.mo, rfl, Same.tup z1 h3, lm, m1, fun H2 z2 => ⟨_, rfl, iteF ?_⟩⟩
    refine ⟨_, rfl, c.ow, 0, rfl, _, rfl, ?_⟩
    rw [decide_eq_true o0]
    refine iteF ?_
    have z02 : Same H H2 := fun a o e => z2 a o (z1 a o e)
    have h2' := Same.tup z02 h2
    have h3' := Same.tup z02 h3
    have hx2 := z02 _ _ hxr
    have fin : ∀ G, Same H2 G → (tRet (tOp (rI0 fun i j => V.bl (decide (i ≤ j))) (tOp (rI0 fun i j => V.int (i + j)) (tOp (rI0 fun i j => V.int (i + j)) (tCB (rSumT K) (tCons (tVar 5) tNil)) (tCB (rSumT K) (tCons (tVar 6) tNil))) (tVar 7)) (tMeth CC (Str.ofString "kept_rows") (spKr CC) [] E (tVar 0) (tCons (tVar 3) tNil)))) { nx := fun x H' => Q V.non H', rt := Q } (((((List.set (L2.start NBc [V.ref x, V.str kd, V.ref p]) 3 (some (V.int c.sz))).set 4 (some (V.int c.pl))).set 5 (some (V.ref d))).set 6 (some (V.ref mm))).set 7 (some (V.int c.ow))) G := fun G zG => by
      refine ⟨_, rfl, d, c.dn, rfl, Same.tup zG h2', _, rfl, mm, c.mo, rfl, Same.tup zG h3', _, _, rfl, rfl, _, rfl, _, _, rfl, rfl, ?_⟩
      refine ⟨_, rfl, x, dx, _, rfl, zG _ _ hx2, rfl, _, rfl, x, c.sz, z, t, m, rfl, ⟨dx, zG _ _ hx2⟩, s1, t0, t1, _, _, rfl, rfl, ?_⟩
      show Q (.bl (decide (c.dn.sum + c.mo.sum + c.ow ≤ t * c.sz + m))) G
      rw [decide_eq_true su]
      exact k G fun a o e => zG a o (z02 a o e)
    by_cases ho : 0 < c.ow
    · obtain ⟨e1, e2, e3⟩ := o1 ho
      refine ⟨_, rfl, _, _, rfl, rfl, _, rfl, iteY ho ?_⟩
      refine ⟨_, rfl, false, .inr (.inl ⟨_, h3', by rw [e1]; rfl⟩), iteF ?_⟩
      refine ⟨_, rfl, (by show 2 ≤ sizeLine; decide), fun tt htt => ?_⟩
      have zt : Same H2 (upd H2 tt (.tup [.str "undo", .str "redo"])) := same_new htt
      refine ⟨tt, _, rfl, .inr (SqT.of upd_same), rfl, flat_strs ["undo", "redo"], _, rfl, ?_⟩
      rw [show inV (.str kd) [.str (Str.ofString "undo"), .str (Str.ofString "redo")] = decide (kd ∈ (["undo", "redo"] : List Str)) from in_strs kd ["undo", "redo"], decide_eq_false (by simp [e2, e3])]
      exact iteF (fin _ zt)
    · refine ⟨_, rfl, _, _, rfl, rfl, _, rfl, iteN ho ?_⟩
      exact fin H2 (Same.refl _)
theorem ok_fo {f : Addr} {fd : FuncData} (F : Fun K "fields_of" "fields_of" sFo f fd) (T : Gv mg) : FnOk P w K mg base CX0 1 f fd ["case"] (spFo K) := by
  refine F.ok scFo (fun vs H Q E h => ?_) (fun cdv A outer s H vs Q E hr h => ?_)
  · obtain ⟨cv, c, rfl, _⟩ := h
    rfl
  · obtain ⟨cv, c, rfl, CA, hs, k⟩ := h
    refine ⟨_, (pss_cons (ps_asg (pv 0) (pg_tup rfl (pgs_cons (pg_name (i := 1) scFo.nd rfl (.inl rfl)) (pgs_cons (pg_name (i := 2) scFo.nd rfl (.inl rfl)) (pgs_cons (pg_name (i := 3) scFo.nd rfl (.inl rfl)) (pgs_cons (pg_name (i := 4) scFo.nd rfl (.inl rfl)) (pgs_cons (pg_name (i := 5) scFo.nd rfl (.inl rfl)) pgs_nil)))))))
 (pss_one (ps_ret (pe_tup (pa_cons (pv 2) (pa_cons (pe_op op_add (pe_callB (cr_sumT rfl) (by rfl) T.sum (by decide +kernel) (pa_cons (pv 3) pa_nil)) (pv 5)) (pa_cons (pe_callB (cr_sumT rfl) (by rfl) T.sum (by decide +kernel) (pa_cons (pv 4) pa_nil)) (pa_cons (pv 5) (pa_cons (pe_op op_modN (pe_op op_sub (pv 2) (pv 5)) (pv 1)) pa_nil))))))))), ?_⟩
    obtain ⟨p, d, m, rfl, h1, h2, h3⟩ := CA.ex
    refine ⟨_, rfl, p, _, rfl, h1, rfl, _, _, rfl, _, _, rfl, _, _, rfl, _, _, rfl, _, _, rfl, rfl, ?_⟩
    refine ⟨_, rfl, _, rfl, d, c.dn, rfl, h2, _, rfl, _, _, rfl, rfl, _, rfl, m, c.mo, rfl, h3, _, rfl, _, rfl, _, rfl, _, _, rfl, rfl, _, rfl, _, _, rfl, rfl, (by show c.sz ≠ 0; omega), ?_⟩
    show 5 ≤ sizeLine ∧ ∀ q, H q = none → Q (.ref q) (upd H q (.tup [.int c.pl, .int (c.dn.sum + c.ow), .int c.mo.sum, .int c.ow, .int ((c.pl - c.ow).fmod c.sz)]))
    rw [fm hs]
    exact ⟨by show 5 ≤ sizeLine; decide, fun q hq => k q _ hq (same_new hq) upd_same⟩
theorem ok_pb {f : Addr} {fd : FuncData} (F : Fun K "places_back" "places_back" sPb f fd) (T : Gv mg) : FnOk P w K mg base CX0 1 f fd ["size", "place", "many"] spPb := by
  refine F.ok scPb (fun vs H Q E h => ?_) (fun cdv A outer s H vs Q E hr h => ?_)
  · obtain ⟨sz, pl, n, rfl, _⟩ := h
    rfl
  · obtain ⟨sz, pl, n, rfl, hs, hn, k⟩ := h
    refine ⟨_, (pss_one (ps_ret (pe_callTy call_tuple_of (by rfl) T.tuple (by decide +kernel) (pa_cons (pe_lc (own := [("k", 3)]) (g := (gName 3)) (by rfl) scPb.nd (pi_range1 (by rfl) T.range (pa_cons (pv 2) pa_nil)) (blkOk_by (N := NPb) (sc := defScope sPb) (by decide +kernel)) (fun _ _ _ _ _ => (pg_name (i := 3) scPb.nd rfl (.inl rfl))) (fun _ _ _ _ _ => pts_nil) (fun _ _ _ _ _ => (pe_op op_modN (pe_op op_sub (pe_op op_sub (pv 1) pe_int) (pv 3)) (pv 0)))) pa_nil)))), ?_⟩
    refine ⟨_, rfl, (n : Int), rfl, by omega, by omega, fun D hD => lc_range (lo := 0) (n := n) (fun i G => Same H G ∧ G D = some (.lst ((backL sz pl i).map V.int))) ⟨same_new hD, upd_same⟩ ?_ ?_⟩
    · rintro i G hi ⟨sG, hG⟩
      refine ⟨rfl, _, rfl, _, _, rfl, rfl, _, rfl, _, _, rfl, rfl, _, rfl, _, _, rfl, rfl, (by show sz ≠ 0; omega), ?_⟩
      show ∃ acc, _ ∧ _ ∧ Same H (upd G D (.lst (acc ++ [.int ((pl - 1 - (0 + (i : Int))).fmod sz)]))) ∧ upd G D (.lst (acc ++ [.int ((pl - 1 - (0 + (i : Int))).fmod sz)])) D = _
      rw [fm hs]
      refine ⟨_, hG, (by rw [List.length_map, backL, List.length_map, List.length_range, sizeLine_eq]; omega), fun c o e => ?_, ?_⟩
      · rw [upd_ne (fun y => by rw [y, hD] at e; cases e)]; exact sG _ _ e
      · rw [upd_same, show backL sz pl (i + 1) = backL sz pl i ++ [(pl - 1 - (i : Int)) % sz] from by unfold backL; rw [List.range_succ, List.map_append]; rfl, List.map_append, Int.zero_add]; rfl
    · rintro G ⟨sG, hG⟩
      exact ⟨D, _, rfl, .inl ⟨SqL.of hG, fun t ht => k t _ (sG.free ht) (sG.trans (same_new ht)) upd_same⟩⟩
theorem ok_po {f : Addr} {fd : FuncData} (F : Fun K "places_on" "places_on" sPo f fd) (T : Gv mg) : FnOk P w K mg base CX0 1 f fd ["size", "place", "many"] spPo := by
  refine F.ok scPo (fun vs H Q E h => ?_) (fun cdv A outer s H vs Q E hr h => ?_)
  · obtain ⟨sz, pl, n, rfl, _⟩ := h
    rfl
  · obtain ⟨sz, pl, n, rfl, hs, hn, k⟩ := h
    refine ⟨_, (pss_one (ps_ret (pe_callTy call_tuple_of (by rfl) T.tuple (by decide +kernel) (pa_cons (pe_lc (own := [("k", 3)]) (g := (gName 3)) (by rfl) scPo.nd (pi_range1 (by rfl) T.range (pa_cons (pv 2) pa_nil)) (blkOk_by (N := NPb) (sc := defScope sPo) (by decide +kernel)) (fun _ _ _ _ _ => (pg_name (i := 3) scPo.nd rfl (.inl rfl))) (fun _ _ _ _ _ => pts_nil) (fun _ _ _ _ _ => (pe_op op_modN (pe_op op_add (pv 1) (pv 3)) (pv 0)))) pa_nil)))), ?_⟩
    refine ⟨_, rfl, (n : Int), rfl, by omega, by omega, fun D hD => lc_range (lo := 0) (n := n) (fun i G => Same H G ∧ G D = some (.lst ((onL sz pl i).map V.int))) ⟨same_new hD, upd_same⟩ ?_ ?_⟩
    · rintro i G hi ⟨sG, hG⟩
      refine ⟨rfl, _, rfl, _, rfl, _, _, rfl, rfl, _, rfl, _, _, rfl, rfl, (by show sz ≠ 0; omega), ?_⟩
      show ∃ acc, _ ∧ _ ∧ Same H (upd G D (.lst (acc ++ [.int ((pl + (0 + (i : Int))).fmod sz)]))) ∧ upd G D (.lst (acc ++ [.int ((pl + (0 + (i : Int))).fmod sz)])) D = _
      rw [fm hs]
      refine ⟨_, hG, (by rw [List.length_map, onL, List.length_map, List.length_range, sizeLine_eq]; omega), fun c o e => ?_, ?_⟩
      · rw [upd_ne (fun y => by rw [y, hD] at e; cases e)]; exact sG _ _ e
      · rw [upd_same, show onL sz pl (i + 1) = onL sz pl i ++ [(pl + (i : Int)) % sz] from by unfold onL; rw [List.range_succ, List.map_append]; rfl, List.map_append, Int.zero_add]; rfl
    · rintro G ⟨sG, hG⟩
      exact ⟨D, _, rfl, .inl ⟨SqL.of hG, fun t ht => k t _ (sG.free ht) (sG.trans (same_new ht)) upd_same⟩⟩
end
end IdL
namespace IdL
open PySem L2 TL
/-! ### seals, as pairs of numbers -/
def sealK (l : List (Int × Int)) : List (Key × V) := l.map fun p => ((.inl p.1 : Key), V.int p.2)
def valI (l : List (Int × Int)) (k : Int) : Option Int := (l.find? fun p => decide (p.1 = k)).map (·.2)
def putI (l : List (Int × Int)) (k v : Int) : List (Int × Int) := if (l.any fun p => decide (p.1 = k)) = true then l.map (fun p => if p.1 = k then (p.1, v) else p) else l ++ [(k, v)]
def dropI (l : List (Int × Int)) (k : Int) : List (Int × Int) := l.filter fun p => decide (p.1 ≠ k)
theorem inl_eq (a b : Int) : ((Sum.inl a : Key) = Sum.inl b) = (a = b) := by
  apply propext
  exact ⟨fun h => Sum.inl.inj h, fun h => by rw [h]⟩
theorem val_seal (l : List (Int × Int)) (k : Int) : valV (sealK l) (.inl k : Key) = (valI l k).map V.int := by
  unfold valV valI sealK
  rw [List.find?_map, Option.map_map, Option.map_map]
  simp only [Function.comp_def, inl_eq]
theorem put_seal (l : List (Int × Int)) (k v : Int) : putK (sealK l) (.inl k : Key) (.int v) = sealK (putI l k v) := by
  unfold putK putI
  have e : ((sealK l).any fun kv => decide (kv.1 = (.inl k : Key))) = l.any fun p => decide (p.1 = k) := by
    unfold sealK
    rw [List.any_map]
    simp only [Function.comp_def, inl_eq]
  rw [e]
  split
  · unfold sealK
    rw [List.map_map, List.map_map]
    apply List.map_congr_left
    intro p _
    simp only [Function.comp_def, inl_eq]
    split <;> rfl
  · unfold sealK
    rw [List.map_append]; rfl
theorem drop_seal (l : List (Int × Int)) (k : Int) : dropK (sealK l) (.inl k : Key) = sealK (dropI l k) := by
  unfold dropK dropI sealK
  rw [List.filter_map]
  simp only [Function.comp_def, inl_eq, ne_eq]
theorem putI_len (l : List (Int × Int)) (k v : Int) : (putI l k v).length ≤ l.length + 1 := by
  unfold putI
  split
  · rw [List.length_map]; omega
  · rw [List.length_append]; show _ + 1 ≤ _; omega
def sealStep (sz : Int) (acc : List (Int × Int) × Int) (len : Int) : List (Int × Int) × Int := (putI (putI acc.1 (acc.2 % sz) len) ((acc.2 + len - 1) % sz) len, acc.2 + len)
def sealRun (sz : Int) (ls : List Int) (st : Int) (l0 : List (Int × Int)) : List (Int × Int) := (ls.foldl (sealStep sz) (l0, st)).1
def sealsC (c : Cs) : List (Int × Int) := sealRun c.sz c.mo c.pl (sealRun c.sz c.dn (c.pl - c.ow - c.dn.sum) [])
theorem seal_len (sz : Int) : ∀ (ls : List Int) (a : List (Int × Int) × Int), (ls.foldl (sealStep sz) a).1.length ≤ a.1.length + 2 * ls.length
  | [], a => by simp
  | n :: ls, a => by
    have h := seal_len sz ls (sealStep sz a n)
    have h1 := putI_len a.1 (a.2 % sz) n
    have h2 := putI_len (putI a.1 (a.2 % sz) n) ((a.2 + n - 1) % sz) n
    rw [List.foldl_cons, List.length_cons]
    have e : (sealStep sz a n).1.length = (putI (putI a.1 (a.2 % sz) n) ((a.2 + n - 1) % sz) n).length := rfl
    omega
def NSo : List Str := ["case", "size", "place", "done", "more", "own", "seals", "at", "lengths", "start", "first", "length"]
theorem scSo : FnScope NSo ["case"] (defScope sSo) := ⟨rfl, rfl, rfl, by decide +kernel, rfl, by decide +kernel, by decide +kernel⟩
structure FSo (K : PySem.W.Frag) (mg : Str → Option Value) (f : Addr) (d : FuncData) : Prop where
  u : Fun K "seals_of" "seals_of" sSo f d
  b : Binds K d ["case"] []
  g : mg "seals_of" = some (.ref f)
def spSo (K : PySem.W.Frag) : Sp := fun vs H Q _ => ∃ (cv : V) (c : Cs), vs = [cv] ∧ CsAt K H cv c ∧ 1 ≤ c.sz ∧ c.dn.length ≤ 1000 ∧ c.mo.length ≤ 1000 ∧ ∀ (p : Addr) H', H p = none → Same H H' → H' p = some (.dK (sealK (sealsC c))) → Q (.ref p) H'
def sealS (c : Cs) : Nat → List (Int × Int)
  | 0 => []
  | 1 => sealRun c.sz c.dn (c.pl - c.ow - c.dn.sum) []
  | _ => sealsC c
structure SoB (H1 : Hp) (sa t1 t2 t3 d m : Addr) (c : Cs) (G : Hp) : Prop where
  kp : ∀ a o, a ≠ sa → H1 a = some o → G a = some o
  g1 : G t1 = some (.tup [.ref d, .int (c.pl - c.ow - c.dn.sum)])
  g2 : G t2 = some (.tup [.ref m, .int c.pl])
  g3 : G t3 = some (.tup [.ref t1, .ref t2])
theorem SoB.put {H1 : Hp} {sa t1 t2 t3 d m : Addr} {c : Cs} {G : Hp} (B : SoB H1 sa t1 t2 t3 d m c G) (n1 : t1 ≠ sa) (n2 : t2 ≠ sa) (n3 : t3 ≠ sa) {o : HO} : SoB H1 sa t1 t2 t3 d m c (upd G sa o) :=
  ⟨fun a o n e => by rw [upd_ne n]; exact B.kp a o n e, by rw [upd_ne n1]; exact B.g1, by rw [upd_ne n2]; exact B.g2, by rw [upd_ne n3]; exact B.g3⟩
section
variable {P : Program} {w : World} {K : PySem.W.Frag} {mg : Str → Option Value} {base : Heap}
theorem ok_so {f : Addr} {fd : FuncData} (F : Fun K "seals_of" "seals_of" sSo f fd) (T : Gv mg) : FnOk P w K mg base CX0 1 f fd ["case"] (spSo K) := by
  refine F.ok scSo (fun vs H Q E h => ?_) (fun cdv A outer s H vs Q E hr h => ?_)
  · obtain ⟨cv, c, rfl, _⟩ := h
    rfl
  · obtain ⟨cv, c, rfl, CA, hs, l1, l2, k⟩ := h
    have hu := hu_of hr
    refine ⟨_, (pss_cons (ps_asg (pv 0) (pg_tup rfl (pgs_cons (pg_name (i := 1) scSo.nd rfl (.inl rfl)) (pgs_cons (pg_name (i := 2) scSo.nd rfl (.inl rfl)) (pgs_cons (pg_name (i := 3) scSo.nd rfl (.inl rfl)) (pgs_cons (pg_name (i := 4) scSo.nd rfl (.inl rfl)) (pgs_cons (pg_name (i := 5) scSo.nd rfl (.inl rfl)) pgs_nil)))))))
 (pss_cons (ps_set (i := 6) scSo.nd rfl (.inl rfl) pe_dnewK)
 (pss_cons (ps_set (i := 7) scSo.nd rfl (.inl rfl) (pe_op op_sub (pe_op op_sub (pv 2) (pv 5)) (pe_callB (cr_sumT rfl) (by rfl) T.sum (by decide +kernel) (pa_cons (pv 3) pa_nil))))
 (pss_cons (ps_for PassesOwn.never rfl (pi_tup (pe_tup (pa_cons (pe_tup (pa_cons (pv 3) (pa_cons (pv 7) pa_nil))) (pa_cons (pe_tup (pa_cons (pv 4) (pa_cons (pv 2) pa_nil))) pa_nil)))) (pg_tup rfl (pgs_cons (pg_name (i := 8) scSo.nd rfl (.inl rfl)) (pgs_cons (pg_name (i := 9) scSo.nd rfl (.inl rfl)) pgs_nil))) (pss_cons (ps_set (i := 10) scSo.nd rfl (.inl rfl) (pv 9))
 (pss_one (ps_for PassesOwn.never rfl (pi_tup (pv 8)) (pg_name (i := 11) scSo.nd rfl (.inl rfl)) (pss_cons (ps_dput hu (pv 6) (pe_op op_modN (pv 10) (pv 1)) (pv 11) rfl)
 (pss_cons (ps_dput hu (pv 6) (pe_op op_modN (pe_op op_sub (pe_op op_add (pv 10) (pv 11)) pe_int) (pv 1)) (pv 11) rfl)
 (pss_one (ps_set (i := 10) scSo.nd rfl (.inl rfl) (pe_op op_add (pv 10) (pv 11))))))))))
 (pss_one (ps_ret (pv 6))))))), ?_⟩
    obtain ⟨p, d, m, rfl, h1, h2, h3⟩ := CA.ex
    refine ⟨_, rfl, p, _, rfl, h1, rfl, _, _, rfl, _, _, rfl, _, _, rfl, _, _, rfl, _, _, rfl, rfl, ?_⟩
    intro sa hsa
    have z1 : Same H (upd H sa (.dK [])) := same_new hsa
    have s1 : upd H sa (.dK []) sa = some (.dK []) := upd_same
    generalize upd H sa (.dK []) = H1 at *
    refine ⟨_, rfl, _, rfl, _, _, rfl, rfl, _, rfl, d, c.dn, rfl, Same.tup z1 h2, _, _, rfl, rfl, ?_⟩
    refine ⟨_, rfl, _, rfl, (by show 2 ≤ sizeLine; decide), fun t1 ht1 => ?_⟩
    have z2 : Same H1 (upd H1 t1 (.tup [.ref d, .int (c.pl - c.ow - c.dn.sum)])) := same_new ht1
    have g1 : upd H1 t1 (.tup [.ref d, .int (c.pl - c.ow - c.dn.sum)]) t1 = some (.tup [.ref d, .int (c.pl - c.ow - c.dn.sum)]) := upd_same
    refine ⟨_, rfl, _, rfl, (by show 2 ≤ sizeLine; decide), fun t2 ht2 => ?_⟩
    have z3 : Same _ (upd (upd H1 t1 (.tup [.ref d, .int (c.pl - c.ow - c.dn.sum)])) t2 (.tup [.ref m, .int c.pl])) := same_new ht2
    have g2 : upd (upd H1 t1 (.tup [.ref d, .int (c.pl - c.ow - c.dn.sum)])) t2 (.tup [.ref m, .int c.pl]) t2 = some (.tup [.ref m, .int c.pl]) := upd_same
    refine ⟨(by show 2 ≤ sizeLine; decide), fun t3 ht3 => ?_⟩
    have z4 := same_new (o := .tup [.ref t1, .ref t2]) ht3
    have g3 : upd (upd (upd H1 t1 (.tup [.ref d, .int (c.pl - c.ow - c.dn.sum)])) t2 (.tup [.ref m, .int c.pl])) t3 (.tup [.ref t1, .ref t2]) t3 = some (.tup [.ref t1, .ref t2]) := upd_same
    have g1 := z4 _ _ (z3 _ _ g1)
    have g2 := z4 _ _ g2
    have s3 := z4 _ _ (z3 _ _ (z2 _ _ s1))
    have n1 : t1 ≠ sa := ne_of g1 s3 (fun z => nomatch z)
    have n2 : t2 ≠ sa := ne_of g2 s3 (fun z => nomatch z)
    have n3 : t3 ≠ sa := ne_of g3 s3 (fun z => nomatch z)
    have zz := (Same.trans (Same.trans z2 z3) z4)
    refine ⟨t3, rfl, ⟨_, SqT.of g3⟩, for_tup (K := K) (a := t3) (xs := [.ref t1, .ref t2]) (fun i σ G => ∃ v8 v9 v10 v11, σ = [some (.ref p), some (.int c.sz), some (.int c.pl), some (.ref d), some (.ref m), some (.int c.ow), some (.ref sa), some (.int (c.pl - c.ow - c.dn.sum)), v8, v9, v10, v11] ∧ SoB H1 sa t1 t2 t3 d m c G ∧ G sa = some (.dK (sealK (sealS c i))) ∧ (sealS c i).length ≤ 2000 * i)
      ⟨none, none, none, none, rfl, ⟨fun a o _ e => zz a o e, g1, g2, g3⟩, s3, Nat.zero_le _⟩ (fun i σ G _ ⟨_, _, _, _, _, B, _⟩ => SqT.of B.g3) ?_ ?_⟩
    · rintro i x σ G hi ⟨v8, v9, v10, v11, rfl, B, hs1, hl1⟩
      obtain ⟨tt, la, ls, st, rfl, ett, hla, el, ll⟩ : ∃ (tt la : Addr) (ls : List Int) (st : Int), x = .ref tt ∧ G tt = some (.tup [.ref la, .int st]) ∧ SqT K H la (ls.map V.int) ∧ sealS c (i + 1) = sealRun c.sz ls st (sealS c i) ∧ ls.length ≤ 1000 := by
        match i, hi with
        | 0, hi => cases hi; exact ⟨t1, d, c.dn, _, rfl, B.g1, h2, rfl, l1⟩
        | 1, hi => cases hi; exact ⟨t2, m, c.mo, _, rfl, B.g2, h3, rfl, l2⟩
        | i + 2, hi => cases hi
      have kla : ∀ {G' : Hp}, SoB H1 sa t1 t2 t3 d m c G' → SqT K G' la (ls.map V.int) := fun {G'} B' => by
        refine KeepT.seq (fun a xs ha => ?_) hla
        have na : a ≠ sa := fun z => by
          subst z
          rcases ha with ha | ⟨o, ha⟩ <;> rw [hsa] at ha <;> cases ha
        rcases ha with ha | ⟨o, ha⟩
        · exact .inl (B'.kp _ _ na (z1 _ _ ha))
        · exact .inr ⟨o, B'.kp _ _ na (z1 _ _ ha)⟩
      refine ⟨tt, _, rfl, SqT.of ett, rfl, _, _, rfl, _, _, rfl, rfl, ?_⟩
      refine ⟨_, rfl, ?_⟩
      refine ⟨_, rfl, la, rfl, ⟨_, kla B⟩, for_tup (K := K) (a := la) (xs := ls.map V.int) (fun j σ G' => ∃ v11, σ = [some (.ref p), some (.int c.sz), some (.int c.pl), some (.ref d), some (.ref m), some (.int c.ow), some (.ref sa), some (.int (c.pl - c.ow - c.dn.sum)), some (.ref la), some (.int st), some (.int ((ls.take j).foldl (sealStep c.sz) (sealS c i, st)).2), v11] ∧ SoB H1 sa t1 t2 t3 d m c G' ∧ G' sa = some (.dK (sealK ((ls.take j).foldl (sealStep c.sz) (sealS c i, st)).1)))
        ⟨v11, rfl, B, hs1⟩ (fun j σ G' _ ⟨_, _, B', _⟩ => kla B') ?_ ?_⟩
      · rintro j y σ G' hj ⟨v11, rfl, B', hs2⟩
        rw [List.getElem?_map] at hj
        obtain ⟨len, hlen, rfl⟩ := Option.map_eq_some_iff.mp hj
        have hj' := (List.getElem?_eq_some_iff.mp hlen).1
        have hl2 : i ≤ 1 := by
          match i, hi with
          | 0, _ => omega
          | 1, _ => omega
          | i + 2, hi => cases hi
        have hl3 := seal_len c.sz (ls.take j) (sealS c i, st)
        have hl4 : (ls.take j).length ≤ 1000 := by rw [List.length_take]; omega
        rw [take_snoc'' hlen, List.foldl_append]
        generalize (ls.take j).foldl (sealStep c.sz) (sealS c i, st) = acc at *
        have hl5 : acc.1.length ≤ 4000 := by
          have : (sealS c i, st).1.length = (sealS c i).length := rfl
          omega
        have p1 := putI_len acc.1 (acc.2 % c.sz) len
        have hz : c.sz ≠ 0 := by omega
        refine ⟨_, rfl, ?_⟩
        refine ⟨_, rfl, _, rfl, _, rfl, _, _, rfl, rfl, hz, sa, _, rfl, DPut.k (k := Sum.inl (acc.2.fmod c.sz)) hs2 (by unfold sealK; rw [List.length_map, sizeLine_eq]; omega), ?_⟩
        rw [fm hs, put_seal]
        refine ⟨_, rfl, _, rfl, _, rfl, _, rfl, _, _, rfl, rfl, _, _, rfl, rfl, _, rfl, _, _, rfl, rfl, hz, sa, _, rfl, DPut.k (k := Sum.inl ((acc.2 + len - 1).fmod c.sz)) (upd_same) (by unfold sealK; rw [List.length_map, sizeLine_eq]; omega), ?_⟩
        rw [fm hs, put_seal]
        refine ⟨_, rfl, _, rfl, _, _, rfl, rfl, _, rfl, (B'.put n1 n2 n3).put n1 n2 n3, upd_same⟩
      · rintro σ G' ⟨v11, rfl, B', hs2⟩
        rw [List.length_map, List.take_length] at hs2 ⊢
        refine ⟨_, _, _, _, rfl, B', ?_, ?_⟩
        · rw [el]; exact hs2
        · rw [el]
          have hl3 := seal_len c.sz ls (sealS c i, st)
          have : (sealS c i, st).1.length = (sealS c i).length := rfl
          unfold sealRun
          omega
    · rintro σ G ⟨v8, v9, v10, v11, rfl, B, hs1, hl1⟩
      exact ⟨_, rfl, k sa G hsa (fun a o e => B.kp a o (fun z => by rw [z, hsa] at e; cases e) (z1 _ _ e)) hs1⟩
end
end IdL
namespace IdL
open PySem L2 TL
/-! ### what is owed -/
abbrev sOi : Stmt := inClass (top 10) 0
abbrev sOn : Stmt := top 13
abbrev sOf : Stmt := top 14
abbrev sOu : Stmt := top 15
abbrev sOr : Stmt := top 16
abbrev sOb : Stmt := top 17
theorem scOi : FnScope ["self", "written", "back", "again", "fields"] ["self", "written", "back", "again", "fields"] (defScope sOi) := ⟨rfl, rfl, rfl, by decide +kernel, rfl, by decide +kernel, by decide +kernel⟩
def NOn : List Str := ["case", "keep", "size", "place", "done", "_", "own", "many", "mark", "left"]
theorem scOn : FnScope NOn ["case", "keep"] (defScope sOn) := ⟨rfl, rfl, rfl, by decide +kernel, rfl, by decide +kernel, by decide +kernel⟩
def NOf : List Str := ["case", "size", "place", "_", "own", "many", "more", "mark"]
theorem scOf : FnScope NOf ["case"] (defScope sOf) := ⟨rfl, rfl, rfl, by decide +kernel, rfl, by decide +kernel, by decide +kernel⟩
def NOu : List Str := ["case", "size", "place", "done", "_", "many", "more", "there"]
theorem scOu : FnScope NOu ["case"] (defScope sOu) := ⟨rfl, rfl, rfl, by decide +kernel, rfl, by decide +kernel, by decide +kernel⟩
def NOr : List Str := ["case", "size", "place", "_", "undone", "many", "more", "there"]
theorem scOr : FnScope NOr ["case"] (defScope sOr) := ⟨rfl, rfl, rfl, by decide +kernel, rfl, by decide +kernel, by decide +kernel⟩
theorem scOb : FnScope ["kind", "case", "keep"] ["kind", "case", "keep"] (defScope sOb) := ⟨rfl, rfl, rfl, by decide +kernel, rfl, by decide +kernel, by decide +kernel⟩
def fldOw : List Str := ["written", "back", "again", "fields"]
structure OOw (K : PySem.W.Frag) (C : Addr) : Prop where
  cl : Cls K C
  no : ∀ f ∈ fldOw, NoAttr K C f
def owF (a b c d : V) : List (Str × V) := [("written", a), ("back", b), ("again", c), ("fields", d)]
structure Ow where
  wr : List Int
  bk : List Int
  ag : List Int
  fs : List Int
structure OwAt (H : Hp) (CO : Addr) (v : V) (o : Ow) : Prop where
  ex : ∃ x dx a b c d : Addr, v = .ref x ∧ H x = some (.ins CO dx (owF (.ref a) (.ref b) (.ref c) (.ref d))) ∧ H a = some (.tup (o.wr.map V.int)) ∧ H b = some (.tup (o.bk.map V.int)) ∧ H c = some (.tup (o.ag.map V.int)) ∧ H d = some (.tup (o.fs.map V.int))
def OwV (H : Hp) (CO : Addr) (v : V) : Option Ow → Prop
  | none => v = .non
  | some o => OwAt H CO v o
def owedN (c : Cs) (keep : Int) : Option Ow := if c.ow = keep then none else
  some ⟨[c.pl], [], [], [(c.pl + 1) % c.sz, (if c.dn.sum + c.ow = keep then c.dn.sum + c.ow - c.dn.headD 0 else c.dn.sum + c.ow) + 1, 0, c.ow + 1, (c.pl - c.ow) % c.sz]⟩
def owedF (c : Cs) : Option Ow := some ⟨[], backL c.sz c.pl c.ow.toNat, [], [(c.pl - c.ow) % c.sz, c.dn.sum + c.ow - c.ow, c.mo.sum, 0, (c.pl - c.ow) % c.sz]⟩
def owedU (c : Cs) : Option Ow := match c.dn.getLast? with
  | none => none
  | some l => some ⟨[], backL c.sz c.pl l.toNat, [], [(c.pl - l) % c.sz, c.dn.sum + c.ow - l, c.mo.sum + l, 0, (c.pl - l) % c.sz]⟩
def owedR (c : Cs) : Option Ow := match c.mo with
  | [] => none
  | l :: _ => some ⟨[], [], onL c.sz c.pl l.toNat, [(c.pl + l) % c.sz, c.dn.sum + c.ow + l, c.mo.sum - l, 0, (c.pl + l) % c.sz]⟩
def owedC (kd : Str) (c : Cs) (keep : Int) : Option Ow := if kd = "note" then owedN c keep else if kd = "fail" then owedF c else if kd = "undo" then owedU c else owedR c
structure CsS (c : Cs) : Prop where
  s1 : 1 ≤ c.sz
  o0 : 0 ≤ c.ow
  o1 : c.ow ≤ 1000000
  d : ∀ n ∈ c.dn, 1 ≤ n ∧ n ≤ 1000000
  m : ∀ n ∈ c.mo, 1 ≤ n ∧ n ≤ 1000000
structure FOn (K : PySem.W.Frag) (mg : Str → Option Value) (f : Addr) (d : FuncData) : Prop where
  u : Fun K "owed_by_note" "owed_by_note" sOn f d
  b : Binds K d ["case", "keep"] []
  g : mg "owed_by_note" = some (.ref f)
structure FOf (K : PySem.W.Frag) (mg : Str → Option Value) (f : Addr) (d : FuncData) : Prop where
  u : Fun K "owed_by_fail" "owed_by_fail" sOf f d
  b : Binds K d ["case"] []
  g : mg "owed_by_fail" = some (.ref f)
structure FOu (K : PySem.W.Frag) (mg : Str → Option Value) (f : Addr) (d : FuncData) : Prop where
  u : Fun K "owed_by_undo" "owed_by_undo" sOu f d
  b : Binds K d ["case"] []
  g : mg "owed_by_undo" = some (.ref f)
structure FOr (K : PySem.W.Frag) (mg : Str → Option Value) (f : Addr) (d : FuncData) : Prop where
  u : Fun K "owed_by_redo" "owed_by_redo" sOr f d
  b : Binds K d ["case"] []
  g : mg "owed_by_redo" = some (.ref f)
structure FOb (K : PySem.W.Frag) (mg : Str → Option Value) (f : Addr) (d : FuncData) : Prop where
  u : Fun K "owed_by" "owed_by" sOb f d
  b : Binds K d ["kind", "case", "keep"] []
  g : mg "owed_by" = some (.ref f)
def spOi (CO : Addr) : Sp := fun vs H Q _ => ∃ (x dx : Addr) (a b c d : V), vs = [.ref x, a, b, c, d] ∧ H x = some (.ins CO dx []) ∧ Q .non (upd H x (.ins CO dx (owF a b c d)))
def spOn (K : PySem.W.Frag) (CO : Addr) : Sp := fun vs H Q _ => ∃ (cv : V) (c : Cs) (kp : Int), vs = [cv, .int kp] ∧ CsAt K H cv c ∧ CsS c ∧ ∀ v H', Same H H' → OwV H' CO v (owedN c kp) → Q v H'
def spO1 (K : PySem.W.Frag) (CO : Addr) (g : Cs → Option Ow) : Sp := fun vs H Q _ => ∃ (cv : V) (c : Cs), vs = [cv] ∧ CsAt K H cv c ∧ CsS c ∧ ∀ v H', Same H H' → OwV H' CO v (g c) → Q v H'
def spOb (K : PySem.W.Frag) (CO : Addr) : Sp := fun vs H Q _ => ∃ (kd : Str) (cv : V) (c : Cs) (kp : Int), vs = [.str kd, cv, .int kp] ∧ CsAt K H cv c ∧ CsS c ∧ ∀ v H', Same H H' → OwV H' CO v (owedC kd c kp) → Q v H'
/-- the object of what is owed, made from its four tuples -/
theorem ow_fin {H G : Hp} {CO a b c d x dx : Addr} {o : Ow} (s : Same H G) (ga : G a = some (.tup (o.wr.map V.int))) (gb : G b = some (.tup (o.bk.map V.int))) (gc : G c = some (.tup (o.ag.map V.int))) (gd : G d = some (.tup (o.fs.map V.int))) (hx : G x = none) (hdx : G dx = none) (_ : dx ≠ x) :
    Same H (upd (upd (upd G dx (.own x)) x (.ins CO dx [])) x (.ins CO dx (owF (.ref a) (.ref b) (.ref c) (.ref d)))) ∧ OwAt (upd (upd (upd G dx (.own x)) x (.ins CO dx [])) x (.ins CO dx (owF (.ref a) (.ref b) (.ref c) (.ref d)))) CO (.ref x) o := by
  rw [upd_upd]
  have k : Same G (upd (upd G dx (.own x)) x (.ins CO dx (owF (.ref a) (.ref b) (.ref c) (.ref d)))) := fun e o' he => by
    rw [upd_ne (fun z => by rw [z, hx] at he; cases he), upd_ne (fun z => by rw [z, hdx] at he; cases he)]
    exact he
  exact ⟨s.trans k, ⟨x, dx, a, b, c, d, rfl, upd_same, k _ _ ga, k _ _ gb, k _ _ gc, k _ _ gd⟩⟩
section
variable {P : Program} {w : World} {K : PySem.W.Frag} {mg : Str → Option Value} {base : Heap}
theorem ok_oi {f CO : Addr} {fd : FuncData} (F : Fun K "__init__" "Owed.__init__" sOi f fd) (O : OOw K CO) : FnOk P w K mg base CX0 1 f fd ["self", "written", "back", "again", "fields"] (spOi CO) := by
  refine F.ok scOi (fun vs H Q E h => ?_) (fun cdv A outer s H vs Q E hr h => ?_)
  · obtain ⟨x, dx, a, b, c, d, rfl, _⟩ := h
    rfl
  · obtain ⟨x, dx, a, b, c, d, rfl, hx, k⟩ := h
    refine ⟨_, (pss_cons (ps_fld (pv 0) (pv 1) rfl)
 (pss_cons (ps_fld (pv 0) (pv 2) rfl)
 (pss_cons (ps_fld (pv 0) (pv 3) rfl)
 (pss_one (ps_fld (pv 0) (pv 4) rfl))))), ?_⟩
    refine ⟨_, rfl, _, rfl, x, CO, dx, [], rfl, hx, O.cl, O.no "written" (by decide +kernel), by decide, ?_⟩
    refine ⟨_, rfl, _, rfl, x, CO, dx, [("written", a)], rfl, upd_same, O.cl, O.no "back" (by decide +kernel), (by show 1 < 1000; decide), ?_⟩
    refine ⟨_, rfl, _, rfl, x, CO, dx, [("written", a), ("back", b)], rfl, upd_same, O.cl, O.no "again" (by decide +kernel), (by show 2 < 1000; decide), ?_⟩
    refine ⟨_, rfl, _, rfl, x, CO, dx, [("written", a), ("back", b), ("again", c)], rfl, upd_same, O.cl, O.no "fields" (by decide +kernel), (by show 3 < 1000; decide), ?_⟩
    show Q .non (upd (upd (upd (upd H x _) x _) x _) x (.ins CO dx (owF a b c d)))
    rw [upd_upd, upd_upd, upd_upd]
    exact k
theorem ok_on {f fO fI CO : Addr} {fd dO dI : FuncData} (F : Fun K "owed_by_note" "owed_by_note" sOn f fd) (FO : FFo K mg fO dO) (OF : FnOk P w K mg base CX0 1 fO dO ["case"] (spFo K)) (MO : Mk K CO fI) (bO : Binds K dI ["self", "written", "back", "again", "fields"] []) (OO : FnOk P w K mg base CX0 1 fI dI ["self", "written", "back", "again", "fields"] (spOi CO)) (gO : mg "Owed" = some (.ref CO)) : FnOk P w K mg base CX0 3 f fd ["case", "keep"] (spOn K CO) := by
  refine F.ok scOn (fun vs H Q E h => ?_) (fun cdv A outer s H vs Q E hr h => ?_)
  · obtain ⟨cv, c, kp, rfl, _⟩ := h
    rfl
  · obtain ⟨cv, c, kp, rfl, CA, S, k⟩ := h
    have hr1 := hr.mono (show 1 ≤ 2 by decide)
    refine ⟨_, (pss_cons (ps_asg (pv 0) (pg_tup rfl (pgs_cons (pg_name (i := 2) scOn.nd rfl (.inl rfl)) (pgs_cons (pg_name (i := 3) scOn.nd rfl (.inl rfl)) (pgs_cons (pg_name (i := 4) scOn.nd rfl (.inl rfl)) (pgs_cons (pg_name (i := 5) scOn.nd rfl (.inl rfl)) (pgs_cons (pg_name (i := 6) scOn.nd rfl (.inl rfl)) pgs_nil)))))))
 (pss_cons (ps_if (pt_cmpR op_eq (pv 6) (pv 1) (nomark _)) (pss_one (ps_ret pe_non)) pss_nil)
 (pss_cons (ps_asg (pe_call OF hr1 rfl FO.g FO.u.kp FO.b .nil pass0 (pa_cons (pv 0) pa_nil)) (pg_tup rfl (pgs_cons (pg_name (i := 5) scOn.nd rfl (.inl rfl)) (pgs_cons (pg_name (i := 7) scOn.nd rfl (.inl rfl)) (pgs_cons (pg_name (i := 5) scOn.nd rfl (.inl rfl)) (pgs_cons (pg_name (i := 5) scOn.nd rfl (.inl rfl)) (pgs_cons (pg_name (i := 8) scOn.nd rfl (.inl rfl)) pgs_nil)))))))
 (pss_cons (ps_set (i := 9) scOn.nd rfl (.inl rfl) (pe_cut (pe_ifExp (pt_cmpR op_eq (pv 7) (pv 1) (nomark _)) (pe_op op_sub (pv 7) (pe_ix ix_tup (pv 4) pe_int (fun _ _ => rfl))) (pv 7))))
 (pss_one (ps_ret (pe_make MO OO hr rfl gO bO .nil pass0 (pa_cons (pe_tup (pa_cons (pv 3) pa_nil)) (pa_cons (pe_tup pa_nil) (pa_cons (pe_tup pa_nil) (pa_cons (pe_tup (pa_cons (pe_op op_modN (pe_op op_add (pv 3) pe_int) (pv 2)) (pa_cons (pe_op op_add (pv 9) pe_int) (pa_cons pe_int (pa_cons (pe_op op_add (pv 6) pe_int) (pa_cons (pv 8) pa_nil)))))) pa_nil))))))))))), ?_⟩
    obtain ⟨p, d, m, rfl, h1, h2, h3⟩ := CA.ex
    refine ⟨_, rfl, p, _, rfl, h1, rfl, _, _, rfl, _, _, rfl, _, _, rfl, _, _, rfl, _, _, rfl, rfl, ?_⟩
    refine ⟨_, rfl, _, rfl, rfl, _, rfl, ?_⟩
    obtain ⟨s1, o0, o1, sd, sm⟩ := S
    by_cases ho : c.ow = kp
    · refine iteY (show V.int c.ow = V.int kp from by rw [ho]) (k _ _ (Same.refl H) ?_)
      unfold owedN
      rw [if_pos ho]
      rfl
    refine iteN (show ¬ V.int c.ow = V.int kp from fun z => ho (V.int.inj z)) ?_
    refine ⟨_, rfl, .ref p, c, rfl, ⟨⟨p, d, m, rfl, h1, h2, h3⟩⟩, s1, fun q H1 hq z1 g1 => ?_⟩
    refine ⟨q, _, rfl, SqT.of g1, rfl, _, _, rfl, _, _, rfl, _, _, rfl, _, _, rfl, _, _, rfl, rfl, ?_⟩
    have hz : c.sz ≠ 0 := by omega
    have hL : ∃ L : Int, L = (if c.dn.sum + c.ow = kp then c.dn.sum + c.ow - c.dn.headD 0 else c.dn.sum + c.ow) := ⟨_, rfl⟩
    obtain ⟨L, eL⟩ := hL
    refine ⟨fun v G => v = .int L ∧ G = H1, ?_, ?_⟩
    · refine ⟨_, rfl, _, rfl, rfl, _, rfl, ?_⟩
      by_cases hm : c.dn.sum + c.ow = kp
      · rw [if_pos hm] at eL
        refine iteY (show V.int (c.dn.sum + c.ow) = V.int kp from by rw [hm]) ?_
        have hd : ∃ n ns, c.dn = n :: ns := by
          cases e : c.dn with
          | nil => rw [e] at hm; exact absurd (show c.ow = kp by simpa using hm) ho
          | cons n ns => exact ⟨n, ns, rfl⟩
        obtain ⟨n, ns, ed⟩ := hd
        refine ⟨_, rfl, _, rfl, d, _, 0, .int n, rfl, rfl, Same.tup z1 h2, (by rw [ed]; exact atI_nat (j := 0) rfl), _, _, rfl, rfl, ?_⟩
        rw [eL, ed]
        exact ⟨rfl, rfl⟩
      · rw [if_neg hm] at eL
        exact iteN (show ¬ V.int (c.dn.sum + c.ow) = V.int kp from fun z => hm (V.int.inj z)) ⟨_, rfl, by rw [eL], rfl⟩
    rintro v G ⟨rfl, rfl⟩
    refine ⟨_, rfl, (by show 1 ≤ sizeLine; decide), fun ta ha => ?_⟩
    refine ⟨(by show 0 ≤ sizeLine; decide), fun tb hb => ⟨(by show 0 ≤ sizeLine; decide), fun tc hc => ?_⟩⟩
    refine ⟨_, rfl, _, _, rfl, rfl, _, rfl, _, _, rfl, rfl, hz, _, rfl, _, _, rfl, rfl, _, rfl, _, _, rfl, rfl, _, rfl, (by show 5 ≤ sizeLine; decide), fun td hd => ?_⟩
    intro x dx hx hdx ne
    refine ⟨x, dx, _, _, _, _, rfl, upd_same, rfl, ?_⟩
    have w1 := same_new (o := .tup [.int c.pl]) ha
    have w2 := same_new (o := .tup []) hb
    have w3 := same_new (o := .tup []) hc
    have w4 := same_new (o := .tup [.int ((c.pl + 1).fmod c.sz), .int (L + 1), .int 0, .int (c.ow + 1), .int ((c.pl - c.ow) % c.sz)]) hd
    have key := ow_fin (CO := CO) (o := ⟨[c.pl], [], [], [(c.pl + 1).fmod c.sz, L + 1, 0, c.ow + 1, (c.pl - c.ow) % c.sz]⟩) (Same.trans z1 (Same.trans w1 (Same.trans w2 (Same.trans w3 w4)))) (w4 _ _ (w3 _ _ (w2 _ _ upd_same))) (w4 _ _ (w3 _ _ upd_same)) (w4 _ _ upd_same) upd_same hx hdx ne
    refine k _ _ key.1 ?_
    have q := key.2
    unfold owedN
    rw [if_neg ho, ← eL]
    rw [show (c.pl + 1) % c.sz = (c.pl + 1).fmod c.sz from (fm s1).symm]
    exact q
end
end IdL
namespace IdL
open PySem L2 TL
section
variable {P : Program} {w : World} {K : PySem.W.Frag} {mg : Str → Option Value} {base : Heap}
theorem ok_of {f fO fI fB CO : Addr} {fd dO dI dB : FuncData} (F : Fun K "owed_by_fail" "owed_by_fail" sOf f fd) (FO : FFo K mg fO dO) (OF : FnOk P w K mg base CX0 1 fO dO ["case"] (spFo K)) (PB : FPb K mg fB dB) (OPB : FnOk P w K mg base CX0 1 fB dB ["size", "place", "many"] spPb) (MO : Mk K CO fI) (bO : Binds K dI ["self", "written", "back", "again", "fields"] []) (OO : FnOk P w K mg base CX0 1 fI dI ["self", "written", "back", "again", "fields"] (spOi CO)) (gO : mg "Owed" = some (.ref CO)) : FnOk P w K mg base CX0 3 f fd ["case"] (spO1 K CO owedF) := by
  refine F.ok scOf (fun vs H Q E h => ?_) (fun cdv A outer s H vs Q E hr h => ?_)
  · obtain ⟨cv, c, rfl, _⟩ := h
    rfl
  · obtain ⟨cv, c, rfl, CA, S, k⟩ := h
    have hr1 := hr.mono (show 1 ≤ 2 by decide)
    refine ⟨_, (pss_cons (ps_asg (pv 0) (pg_tup rfl (pgs_cons (pg_name (i := 1) scOf.nd rfl (.inl rfl)) (pgs_cons (pg_name (i := 2) scOf.nd rfl (.inl rfl)) (pgs_cons (pg_name (i := 3) scOf.nd rfl (.inl rfl)) (pgs_cons (pg_name (i := 3) scOf.nd rfl (.inl rfl)) (pgs_cons (pg_name (i := 4) scOf.nd rfl (.inl rfl)) pgs_nil)))))))
 (pss_cons (ps_asg (pe_call OF hr1 rfl FO.g FO.u.kp FO.b .nil pass0 (pa_cons (pv 0) pa_nil)) (pg_tup rfl (pgs_cons (pg_name (i := 3) scOf.nd rfl (.inl rfl)) (pgs_cons (pg_name (i := 5) scOf.nd rfl (.inl rfl)) (pgs_cons (pg_name (i := 6) scOf.nd rfl (.inl rfl)) (pgs_cons (pg_name (i := 3) scOf.nd rfl (.inl rfl)) (pgs_cons (pg_name (i := 7) scOf.nd rfl (.inl rfl)) pgs_nil)))))))
 (pss_one (ps_ret (pe_make MO OO hr rfl gO bO .nil pass0 (pa_cons (pe_tup pa_nil) (pa_cons (pe_call OPB hr1 rfl PB.g PB.u.kp PB.b .nil pass0 (pa_cons (pv 1) (pa_cons (pv 2) (pa_cons (pv 4) pa_nil)))) (pa_cons (pe_tup pa_nil) (pa_cons (pe_tup (pa_cons (pv 7) (pa_cons (pe_op op_sub (pv 5) (pv 4)) (pa_cons (pv 6) (pa_cons pe_int (pa_cons (pv 7) pa_nil)))))) pa_nil))))))))), ?_⟩
    obtain ⟨p, d, m, rfl, h1, h2, h3⟩ := CA.ex
    obtain ⟨s1, o0, o1, sd, sm⟩ := S
    refine ⟨_, rfl, p, _, rfl, h1, rfl, _, _, rfl, _, _, rfl, _, _, rfl, _, _, rfl, _, _, rfl, rfl, ?_⟩
    refine ⟨_, rfl, .ref p, c, rfl, ⟨⟨p, d, m, rfl, h1, h2, h3⟩⟩, s1, fun q H1 hq z1 g1 => ?_⟩
    refine ⟨q, _, rfl, SqT.of g1, rfl, _, _, rfl, _, _, rfl, _, _, rfl, _, _, rfl, _, _, rfl, rfl, ?_⟩
    refine ⟨(by show 0 ≤ sizeLine; decide), fun ta ha => ?_⟩
    have w1 := same_new (o := .tup []) ha
    have ga : upd H1 ta (.tup []) ta = some (.tup ([] : List V)) := upd_same
    generalize upd H1 ta (.tup []) = H2 at *
    refine ⟨_, rfl, _, rfl, _, rfl, c.sz, c.pl, c.ow.toNat, by rw [Int.toNat_of_nonneg o0]; rfl, s1, by omega, fun tb H3 hb w2 gb => ?_⟩
    refine ⟨(by show 0 ≤ sizeLine; decide), fun tc hc => ?_⟩
    have w3 := same_new (o := .tup []) hc
    have gc : upd H3 tc (.tup []) tc = some (.tup ([] : List V)) := upd_same
    generalize upd H3 tc (.tup []) = H4 at *
    refine ⟨_, rfl, _, rfl, _, rfl, _, _, rfl, rfl, _, rfl, _, rfl, (by show 5 ≤ sizeLine; decide), fun td hd => ?_⟩
    have w4 : Same H4 (upd H4 td (.tup [.int ((c.pl - c.ow) % c.sz), .int (c.dn.sum + c.ow - c.ow), .int c.mo.sum, .int 0, .int ((c.pl - c.ow) % c.sz)])) := same_new hd
    have gd : upd H4 td (.tup [.int ((c.pl - c.ow) % c.sz), .int (c.dn.sum + c.ow - c.ow), .int c.mo.sum, .int 0, .int ((c.pl - c.ow) % c.sz)]) td = some (.tup [.int ((c.pl - c.ow) % c.sz), .int (c.dn.sum + c.ow - c.ow), .int c.mo.sum, .int 0, .int ((c.pl - c.ow) % c.sz)]) := upd_same
    dsimp only
    generalize upd H4 td (.tup [.int ((c.pl - c.ow) % c.sz), .int (c.dn.sum + c.ow - c.ow), .int c.mo.sum, .int 0, .int ((c.pl - c.ow) % c.sz)]) = H5 at *
    intro x dx hx hdx ne
    refine ⟨x, dx, _, _, _, _, rfl, upd_same, rfl, ?_⟩
    have key := ow_fin (CO := CO) (o := ⟨[], backL c.sz c.pl c.ow.toNat, [], [(c.pl - c.ow) % c.sz, c.dn.sum + c.ow - c.ow, c.mo.sum, 0, (c.pl - c.ow) % c.sz]⟩) (Same.trans z1 (Same.trans w1 (Same.trans w2 (Same.trans w3 w4)))) (w4 _ _ (w3 _ _ (w2 _ _ ga))) (w4 _ _ (w3 _ _ gb)) (w4 _ _ gc) gd hx hdx ne
    exact k _ _ key.1 key.2
theorem ok_ou {f fO fI fB CO : Addr} {fd dO dI dB : FuncData} (F : Fun K "owed_by_undo" "owed_by_undo" sOu f fd) (FO : FFo K mg fO dO) (OF : FnOk P w K mg base CX0 1 fO dO ["case"] (spFo K)) (PB : FPb K mg fB dB) (OPB : FnOk P w K mg base CX0 1 fB dB ["size", "place", "many"] spPb) (MO : Mk K CO fI) (bO : Binds K dI ["self", "written", "back", "again", "fields"] []) (OO : FnOk P w K mg base CX0 1 fI dI ["self", "written", "back", "again", "fields"] (spOi CO)) (gO : mg "Owed" = some (.ref CO)) : FnOk P w K mg base CX0 3 f fd ["case"] (spO1 K CO owedU) := by
  refine F.ok scOu (fun vs H Q E h => ?_) (fun cdv A outer s H vs Q E hr h => ?_)
  · obtain ⟨cv, c, rfl, _⟩ := h
    rfl
  · obtain ⟨cv, c, rfl, CA, S, k⟩ := h
    have hr1 := hr.mono (show 1 ≤ 2 by decide)
    refine ⟨_, (pss_cons (ps_asg (pv 0) (pg_tup rfl (pgs_cons (pg_name (i := 1) scOu.nd rfl (.inl rfl)) (pgs_cons (pg_name (i := 2) scOu.nd rfl (.inl rfl)) (pgs_cons (pg_name (i := 3) scOu.nd rfl (.inl rfl)) (pgs_cons (pg_name (i := 4) scOu.nd rfl (.inl rfl)) (pgs_cons (pg_name (i := 4) scOu.nd rfl (.inl rfl)) pgs_nil)))))))
 (pss_cons (ps_if (pt_not (pt_truth (pv 3) (by intro _; rfl))) (pss_one (ps_ret pe_non)) pss_nil)
 (pss_cons (ps_asg (pe_call OF hr1 rfl FO.g FO.u.kp FO.b .nil pass0 (pa_cons (pv 0) pa_nil)) (pg_tup rfl (pgs_cons (pg_name (i := 4) scOu.nd rfl (.inl rfl)) (pgs_cons (pg_name (i := 5) scOu.nd rfl (.inl rfl)) (pgs_cons (pg_name (i := 6) scOu.nd rfl (.inl rfl)) (pgs_cons (pg_name (i := 4) scOu.nd rfl (.inl rfl)) (pgs_cons (pg_name (i := 4) scOu.nd rfl (.inl rfl)) pgs_nil)))))))
 (pss_cons (ps_set (i := 7) scOu.nd rfl (.inl rfl) (pe_op op_modN (pe_op op_sub (pv 2) (pe_ix ix_tup (pv 3) (pe_un un_neg pe_int) (fun _ _ => rfl))) (pv 1)))
 (pss_one (ps_ret (pe_make MO OO hr rfl gO bO .nil pass0 (pa_cons (pe_tup pa_nil) (pa_cons (pe_call OPB hr1 rfl PB.g PB.u.kp PB.b .nil pass0 (pa_cons (pv 1) (pa_cons (pv 2) (pa_cons (pe_ix ix_tup (pv 3) (pe_un un_neg pe_int) (fun _ _ => rfl)) pa_nil)))) (pa_cons (pe_tup pa_nil) (pa_cons (pe_tup (pa_cons (pv 7) (pa_cons (pe_op op_sub (pv 5) (pe_ix ix_tup (pv 3) (pe_un un_neg pe_int) (fun _ _ => rfl))) (pa_cons (pe_op op_add (pv 6) (pe_ix ix_tup (pv 3) (pe_un un_neg pe_int) (fun _ _ => rfl))) (pa_cons pe_int (pa_cons (pv 7) pa_nil)))))) pa_nil))))))))))), ?_⟩
    obtain ⟨p, d, m, rfl, h1, h2, h3⟩ := CA.ex
    obtain ⟨s1, o0, o1, sd, sm⟩ := S
    refine ⟨_, rfl, p, _, rfl, h1, rfl, _, _, rfl, _, _, rfl, _, _, rfl, _, _, rfl, _, _, rfl, rfl, ?_⟩
    cases e : c.dn.getLast? with
    | none =>
      have ed : c.dn = [] := List.getLast?_eq_none_iff.mp e
      refine ⟨_, rfl, false, .inr (.inl ⟨_, h2, by rw [ed]; rfl⟩), iteT (k _ _ (Same.refl H) ?_)⟩
      unfold owedU
      rw [e]
      rfl
    | some l =>
    have lm : l ∈ c.dn := List.mem_of_getLast? e
    obtain ⟨l1, l2⟩ := sd l lm
    have hne : c.dn ≠ [] := fun z => by rw [z] at lm; cases lm
    have elast : atI (c.dn.map V.int) (-1) = some (.int l) := by
      obtain ⟨ys, ed⟩ := List.getLast?_eq_some_iff.mp e
      rw [ed, List.map_append]
      exact atI_last _ _
    have kk : ∀ v H', Same H H' → OwAt H' CO v ⟨[], backL c.sz c.pl l.toNat, [], [(c.pl - l) % c.sz, c.dn.sum + c.ow - l, c.mo.sum + l, 0, (c.pl - l) % c.sz]⟩ → Q v H' := fun v H' s o => k v H' s (by unfold owedU; rw [e]; exact o)
    refine ⟨_, rfl, true, .inr (.inl ⟨_, h2, by cases ed : c.dn with | nil => exact absurd ed hne | cons a b => rfl⟩), iteF ?_⟩
    refine ⟨_, rfl, .ref p, c, rfl, ⟨⟨p, d, m, rfl, h1, h2, h3⟩⟩, s1, fun q H1 hq z1 g1 => ?_⟩
    have h2' := Same.tup z1 h2
    refine ⟨q, _, rfl, SqT.of g1, rfl, _, _, rfl, _, _, rfl, _, _, rfl, _, _, rfl, _, _, rfl, rfl, ?_⟩
    rw [show (c.pl - l) % c.sz = (c.pl - l).fmod c.sz from (fm s1).symm] at kk
    have hz : c.sz ≠ 0 := by omega
    refine ⟨_, rfl, _, rfl, _, rfl, d, _, -1, .int l, rfl, rfl, h2', elast, _, _, rfl, rfl, _, rfl, _, _, rfl, rfl, hz, ?_⟩
    dsimp only
    generalize (c.pl - l).fmod c.sz = th at *
    refine ⟨(by show 0 ≤ sizeLine; decide), fun ta ha => ?_⟩
    have w1 := same_new (o := .tup []) ha
    have ga : upd H1 ta (.tup []) ta = some (.tup ([] : List V)) := upd_same
    generalize upd H1 ta (.tup []) = H2 at *
    refine ⟨_, rfl, _, rfl, _, rfl, _, rfl, d, _, -1, .int l, rfl, rfl, Same.tup w1 h2', elast, c.sz, c.pl, l.toNat, by rw [Int.toNat_of_nonneg (by omega)]; rfl, s1, by omega, fun tb H3 hb w2 gb => ?_⟩
    refine ⟨(by show 0 ≤ sizeLine; decide), fun tc hc => ?_⟩
    have w3 := same_new (o := .tup []) hc
    have gc : upd H3 tc (.tup []) tc = some (.tup ([] : List V)) := upd_same
    generalize upd H3 tc (.tup []) = H4 at *
    have h24 : SqT K H4 d (c.dn.map V.int) := Same.tup (Same.trans w1 (Same.trans w2 w3)) h2'
    refine ⟨_, rfl, _, rfl, _, rfl, _, rfl, d, _, -1, .int l, rfl, rfl, h24, elast, _, _, rfl, rfl, _, rfl, _, rfl, _, rfl, d, _, -1, .int l, rfl, rfl, h24, elast, _, _, rfl, rfl, _, rfl, (by show 5 ≤ sizeLine; decide), fun td hd => ?_⟩
    have w4 : Same H4 (upd H4 td (.tup [.int th, .int (c.dn.sum + c.ow - l), .int (c.mo.sum + l), .int 0, .int th])) := same_new hd
    have gd : upd H4 td (.tup [.int th, .int (c.dn.sum + c.ow - l), .int (c.mo.sum + l), .int 0, .int th]) td = some (.tup [.int th, .int (c.dn.sum + c.ow - l), .int (c.mo.sum + l), .int 0, .int th]) := upd_same
    dsimp only
    generalize upd H4 td (.tup [.int th, .int (c.dn.sum + c.ow - l), .int (c.mo.sum + l), .int 0, .int th]) = H5 at *
    intro x dx hx hdx ne
    refine ⟨x, dx, _, _, _, _, rfl, upd_same, rfl, ?_⟩
    have key := ow_fin (CO := CO) (o := ⟨[], backL c.sz c.pl l.toNat, [], [th, c.dn.sum + c.ow - l, c.mo.sum + l, 0, th]⟩) (Same.trans z1 (Same.trans w1 (Same.trans w2 (Same.trans w3 w4)))) (w4 _ _ (w3 _ _ (w2 _ _ ga))) (w4 _ _ (w3 _ _ gb)) (w4 _ _ gc) gd hx hdx ne
    exact kk _ _ key.1 key.2
end
end IdL
namespace IdL
open PySem L2 TL
section
variable {P : Program} {w : World} {K : PySem.W.Frag} {mg : Str → Option Value} {base : Heap}
theorem ok_or {f fO fI fB CO : Addr} {fd dO dI dB : FuncData} (F : Fun K "owed_by_redo" "owed_by_redo" sOr f fd) (FO : FFo K mg fO dO) (OF : FnOk P w K mg base CX0 1 fO dO ["case"] (spFo K)) (PO : FPo K mg fB dB) (OPO : FnOk P w K mg base CX0 1 fB dB ["size", "place", "many"] spPo) (MO : Mk K CO fI) (bO : Binds K dI ["self", "written", "back", "again", "fields"] []) (OO : FnOk P w K mg base CX0 1 fI dI ["self", "written", "back", "again", "fields"] (spOi CO)) (gO : mg "Owed" = some (.ref CO)) : FnOk P w K mg base CX0 3 f fd ["case"] (spO1 K CO owedR) := by
  refine F.ok scOr (fun vs H Q E h => ?_) (fun cdv A outer s H vs Q E hr h => ?_)
  · obtain ⟨cv, c, rfl, _⟩ := h
    rfl
  · obtain ⟨cv, c, rfl, CA, S, k⟩ := h
    have hr1 := hr.mono (show 1 ≤ 2 by decide)
    refine ⟨_, (pss_cons (ps_asg (pv 0) (pg_tup rfl (pgs_cons (pg_name (i := 1) scOr.nd rfl (.inl rfl)) (pgs_cons (pg_name (i := 2) scOr.nd rfl (.inl rfl)) (pgs_cons (pg_name (i := 3) scOr.nd rfl (.inl rfl)) (pgs_cons (pg_name (i := 4) scOr.nd rfl (.inl rfl)) (pgs_cons (pg_name (i := 3) scOr.nd rfl (.inl rfl)) pgs_nil)))))))
 (pss_cons (ps_if (pt_not (pt_truth (pv 4) (by intro _; rfl))) (pss_one (ps_ret pe_non)) pss_nil)
 (pss_cons (ps_asg (pe_call OF hr1 rfl FO.g FO.u.kp FO.b .nil pass0 (pa_cons (pv 0) pa_nil)) (pg_tup rfl (pgs_cons (pg_name (i := 3) scOr.nd rfl (.inl rfl)) (pgs_cons (pg_name (i := 5) scOr.nd rfl (.inl rfl)) (pgs_cons (pg_name (i := 6) scOr.nd rfl (.inl rfl)) (pgs_cons (pg_name (i := 3) scOr.nd rfl (.inl rfl)) (pgs_cons (pg_name (i := 3) scOr.nd rfl (.inl rfl)) pgs_nil)))))))
 (pss_cons (ps_set (i := 7) scOr.nd rfl (.inl rfl) (pe_op op_modN (pe_op op_add (pv 2) (pe_ix ix_tup (pv 4) pe_int (fun _ _ => rfl))) (pv 1)))
 (pss_one (ps_ret (pe_make MO OO hr rfl gO bO .nil pass0 (pa_cons (pe_tup pa_nil) (pa_cons (pe_tup pa_nil) (pa_cons (pe_call OPO hr1 rfl PO.g PO.u.kp PO.b .nil pass0 (pa_cons (pv 1) (pa_cons (pv 2) (pa_cons (pe_ix ix_tup (pv 4) pe_int (fun _ _ => rfl)) pa_nil)))) (pa_cons (pe_tup (pa_cons (pv 7) (pa_cons (pe_op op_add (pv 5) (pe_ix ix_tup (pv 4) pe_int (fun _ _ => rfl))) (pa_cons (pe_op op_sub (pv 6) (pe_ix ix_tup (pv 4) pe_int (fun _ _ => rfl))) (pa_cons pe_int (pa_cons (pv 7) pa_nil)))))) pa_nil))))))))))), ?_⟩
    obtain ⟨p, d, m, rfl, h1, h2, h3⟩ := CA.ex
    obtain ⟨s1, o0, o1, sd, sm⟩ := S
    refine ⟨_, rfl, p, _, rfl, h1, rfl, _, _, rfl, _, _, rfl, _, _, rfl, _, _, rfl, _, _, rfl, rfl, ?_⟩
    cases e : c.mo with
    | nil =>
      refine ⟨_, rfl, false, .inr (.inl ⟨_, h3, by rw [e]; rfl⟩), iteT (k _ _ (Same.refl H) ?_)⟩
      unfold owedR
      rw [e]
      rfl
    | cons l ls =>
    obtain ⟨l1, l2⟩ := sm l (by rw [e]; exact List.mem_cons_self ..)
    have elast : atI (c.mo.map V.int) 0 = some (.int l) := by rw [e]; exact atI_nat (j := 0) rfl
    have kk : ∀ v H', Same H H' → OwAt H' CO v ⟨[], [], onL c.sz c.pl l.toNat, [(c.pl + l) % c.sz, c.dn.sum + c.ow + l, c.mo.sum - l, 0, (c.pl + l) % c.sz]⟩ → Q v H' := fun v H' s o => k v H' s (by unfold owedR; rw [e] at o ⊢; exact o)
    refine ⟨_, rfl, true, .inr (.inl ⟨_, h3, by rw [e]; rfl⟩), iteF ?_⟩
    refine ⟨_, rfl, .ref p, c, rfl, ⟨⟨p, d, m, rfl, h1, h2, h3⟩⟩, s1, fun q H1 hq z1 g1 => ?_⟩
    have h2' := Same.tup z1 h3
    refine ⟨q, _, rfl, SqT.of g1, rfl, _, _, rfl, _, _, rfl, _, _, rfl, _, _, rfl, _, _, rfl, rfl, ?_⟩
    rw [show (c.pl + l) % c.sz = (c.pl + l).fmod c.sz from (fm s1).symm] at kk
    have hz : c.sz ≠ 0 := by omega
    refine ⟨_, rfl, _, rfl, m, _, 0, .int l, rfl, rfl, h2', elast, _, _, rfl, rfl, _, rfl, _, _, rfl, rfl, hz, ?_⟩
    dsimp only
    generalize (c.pl + l).fmod c.sz = th at *
    refine ⟨(by show 0 ≤ sizeLine; decide), fun ta ha => ?_⟩
    have w1 := same_new (o := .tup []) ha
    have ga : upd H1 ta (.tup []) ta = some (.tup ([] : List V)) := upd_same
    generalize upd H1 ta (.tup []) = H2 at *
    refine ⟨(by show 0 ≤ sizeLine; decide), fun tb hb => ?_⟩
    have w2 := same_new (o := .tup []) hb
    have gb : upd H2 tb (.tup []) tb = some (.tup ([] : List V)) := upd_same
    generalize upd H2 tb (.tup []) = H3 at *
    refine ⟨_, rfl, _, rfl, _, rfl, m, _, 0, .int l, rfl, rfl, Same.tup (Same.trans w1 w2) h2', elast, c.sz, c.pl, l.toNat, by rw [Int.toNat_of_nonneg (by omega)]; rfl, s1, by omega, fun tc H4 hc w3 gc => ?_⟩
    have h24 : SqT K H4 m (c.mo.map V.int) := Same.tup (Same.trans w1 (Same.trans w2 w3)) h2'
    refine ⟨_, rfl, _, rfl, _, rfl, m, _, 0, .int l, rfl, rfl, h24, elast, _, _, rfl, rfl, _, rfl, _, rfl, m, _, 0, .int l, rfl, rfl, h24, elast, _, _, rfl, rfl, _, rfl, (by show 5 ≤ sizeLine; decide), fun td hd => ?_⟩
    have w4 : Same H4 (upd H4 td (.tup [.int th, .int (c.dn.sum + c.ow + l), .int (c.mo.sum - l), .int 0, .int th])) := same_new hd
    have gd : upd H4 td (.tup [.int th, .int (c.dn.sum + c.ow + l), .int (c.mo.sum - l), .int 0, .int th]) td = some (.tup [.int th, .int (c.dn.sum + c.ow + l), .int (c.mo.sum - l), .int 0, .int th]) := upd_same
    dsimp only
    generalize upd H4 td (.tup [.int th, .int (c.dn.sum + c.ow + l), .int (c.mo.sum - l), .int 0, .int th]) = H5 at *
    intro x dx hx hdx ne
    refine ⟨x, dx, _, _, _, _, rfl, upd_same, rfl, ?_⟩
    have key := ow_fin (CO := CO) (o := ⟨[], [], onL c.sz c.pl l.toNat, [th, c.dn.sum + c.ow + l, c.mo.sum - l, 0, th]⟩) (Same.trans z1 (Same.trans w1 (Same.trans w2 (Same.trans w3 w4)))) (w4 _ _ (w3 _ _ (w2 _ _ ga))) (w4 _ _ (w3 _ _ gb)) (w4 _ _ gc) gd hx hdx ne
    exact kk _ _ key.1 key.2
theorem ok_ob {f fN fF fU fR CO : Addr} {fd dN dF dU dR : FuncData} (F : Fun K "owed_by" "owed_by" sOb f fd) (NO : FOn K mg fN dN) (ON : FnOk P w K mg base CX0 3 fN dN ["case", "keep"] (spOn K CO)) (FA : FOf K mg fF dF) (OF : FnOk P w K mg base CX0 3 fF dF ["case"] (spO1 K CO owedF)) (UN : FOu K mg fU dU) (OU : FnOk P w K mg base CX0 3 fU dU ["case"] (spO1 K CO owedU)) (RE : FOr K mg fR dR) (OR : FnOk P w K mg base CX0 3 fR dR ["case"] (spO1 K CO owedR)) : FnOk P w K mg base CX0 4 f fd ["kind", "case", "keep"] (spOb K CO) := by
  refine F.ok scOb (fun vs H Q E h => ?_) (fun cdv A outer s H vs Q E hr h => ?_)
  · obtain ⟨kd, cv, c, kp, rfl, _⟩ := h
    rfl
  · obtain ⟨kd, cv, c, kp, rfl, CA, S, k⟩ := h
    refine ⟨_, (pss_cons (ps_if (pt_cmpR op_eq (pv 0) pe_str (nomark _)) (pss_one (ps_ret (pe_call ON hr rfl NO.g NO.u.kp NO.b .nil pass0 (pa_cons (pv 1) (pa_cons (pv 2) pa_nil))))) pss_nil)
 (pss_cons (ps_if (pt_cmpR op_eq (pv 0) pe_str (nomark _)) (pss_one (ps_ret (pe_call OF hr rfl FA.g FA.u.kp FA.b .nil pass0 (pa_cons (pv 1) pa_nil)))) pss_nil)
 (pss_one (ps_ret (pe_cut (pe_ifExp (pt_cmpR op_eq (pv 0) pe_str (nomark _)) (pe_call OU hr rfl UN.g UN.u.kp UN.b .nil pass0 (pa_cons (pv 1) pa_nil)) (pe_call OR hr rfl RE.g RE.u.kp RE.b .nil pass0 (pa_cons (pv 1) pa_nil)))))))), ?_⟩
    unfold owedC at k
    refine ⟨_, rfl, rfl, _, rfl, ?_⟩
    by_cases h1 : kd = "note"
    · rw [if_pos h1] at k
      exact iteY (show V.str kd = V.str "note" from by rw [h1]) ⟨_, rfl, _, rfl, cv, c, kp, rfl, CA, S, k⟩
    rw [if_neg h1] at k
    refine iteN (show ¬ V.str kd = V.str "note" from fun z => h1 (V.str.inj z)) ?_
    refine ⟨_, rfl, rfl, _, rfl, ?_⟩
    by_cases h2 : kd = "fail"
    · rw [if_pos h2] at k
      exact iteY (show V.str kd = V.str "fail" from by rw [h2]) ⟨_, rfl, cv, c, rfl, CA, S, k⟩
    rw [if_neg h2] at k
    refine iteN (show ¬ V.str kd = V.str "fail" from fun z => h2 (V.str.inj z)) ?_
    refine ⟨fun v G => Q v G, ?_, fun v G q => q⟩
    refine ⟨_, rfl, rfl, _, rfl, ?_⟩
    by_cases h3 : kd = "undo"
    · rw [if_pos h3] at k
      exact iteY (show V.str kd = V.str "undo" from by rw [h3]) ⟨_, rfl, cv, c, rfl, CA, S, k⟩
    rw [if_neg h3] at k
    exact iteN (show ¬ V.str kd = V.str "undo" from fun z => h3 (V.str.inj z)) ⟨_, rfl, cv, c, rfl, CA, S, k⟩
end
end IdL
namespace IdL
open PySem L2 TL
/-! ### the desk of a book -/
inductive Nm
  | size | keep | a | b | c | next | many | more | own | mark
  deriving DecidableEq
def nmS : Nm → Str
  | .size => "size"
  | .keep => "keep"
  | .a => "a"
  | .b => "b"
  | .c => "c"
  | .next => "next"
  | .many => "many"
  | .more => "more"
  | .own => "own"
  | .mark => "mark"
def namesL (g : Nm → Int) : List (Key × V) := [(.inr "size", .int (g .size)), (.inr "keep", .int (g .keep)), (.inr "a", .int (g .a)), (.inr "b", .int (g .b)), (.inr "c", .int (g .c)), (.inr "next", .int (g .next)), (.inr "many", .int (g .many)), (.inr "more", .int (g .more)), (.inr "own", .int (g .own)), (.inr "mark", .int (g .mark))]
def setN (g : Nm → Int) (n : Nm) (z : Int) : Nm → Int := fun m => if m = n then z else g m
theorem names_val (g : Nm → Int) (n : Nm) : valV (namesL g) (.inr (nmS n) : Key) = some (.int (g n)) := by cases n <;> kernel_rfl
theorem names_put (g : Nm → Int) (n : Nm) (z : Int) : putK (namesL g) (.inr (nmS n) : Key) (.int z) = namesL (setN g n z) := by cases n <;> kernel_rfl
structure Dk where
  sz : Int
  nm : Nm → Int
  se : List (Int × Int)
  wr : List Int
  bk : List Int
  ag : List Int
  ch : Bool
structure DkL where
  n : Addr
  s : Addr
  w : Addr
  b : Addr
  r : Addr
def dkF (L : DkL) (sz : Int) (ch : Bool) : List (Str × V) := [("names", .ref L.n), ("size", .int sz), ("seals", .ref L.s), ("written", .ref L.w), ("back", .ref L.b), ("again", .ref L.r), ("is_changed", .bl ch)]
structure DkAt (H : Hp) (x CD dx : Addr) (L : DkL) (S : Dk) : Prop where
  ins : H x = some (.ins CD dx (dkF L S.sz S.ch))
  nm : H L.n = some (.dK (namesL S.nm))
  se : H L.s = some (.dK (sealK S.se))
  wr : H L.w = some (.lst (S.wr.map V.int))
  bk : H L.b = some (.lst (S.bk.map V.int))
  ag : H L.r = some (.lst (S.ag.map V.int))
  ns : L.n ≠ L.s
  wb : L.w ≠ L.b
  wg : L.w ≠ L.r
  bg : L.b ≠ L.r
/-- all stands but the desk -/
def Off (x : Addr) (L : DkL) (H H' : Hp) : Prop := ∀ a o, a ≠ x → a ≠ L.n → a ≠ L.s → a ≠ L.w → a ≠ L.b → a ≠ L.r → H a = some o → H' a = some o
theorem Off.refl (x : Addr) (L : DkL) (H : Hp) : Off x L H H := fun _ _ _ _ _ _ _ _ e => e
theorem Off.trans {x : Addr} {L : DkL} {H H1 H2 : Hp} (a : Off x L H H1) (b : Off x L H1 H2) : Off x L H H2 := fun c o n1 n2 n3 n4 n5 n6 e => b c o n1 n2 n3 n4 n5 n6 (a c o n1 n2 n3 n4 n5 n6 e)
theorem Off.of {x : Addr} {L : DkL} {H H' : Hp} (s : Same H H') : Off x L H H' := fun c o _ _ _ _ _ _ e => s c o e
section
variable {H H' : Hp} {x CD dx : Addr} {L : DkL} {S : Dk}
theorem DkAt.same (D : DkAt H x CD dx L S) (s : Same H H') : DkAt H' x CD dx L S := ⟨s _ _ D.ins, s _ _ D.nm, s _ _ D.se, s _ _ D.wr, s _ _ D.bk, s _ _ D.ag, D.ns, D.wb, D.wg, D.bg⟩
theorem DkAt.xn (D : DkAt H x CD dx L S) : x ≠ L.n := ne_of D.ins D.nm (fun z => nomatch z)
theorem DkAt.xs (D : DkAt H x CD dx L S) : x ≠ L.s := ne_of D.ins D.se (fun z => nomatch z)
theorem DkAt.xw (D : DkAt H x CD dx L S) : x ≠ L.w := ne_of D.ins D.wr (fun z => nomatch z)
theorem DkAt.xb (D : DkAt H x CD dx L S) : x ≠ L.b := ne_of D.ins D.bk (fun z => nomatch z)
theorem DkAt.xr (D : DkAt H x CD dx L S) : x ≠ L.r := ne_of D.ins D.ag (fun z => nomatch z)
theorem DkAt.nw (D : DkAt H x CD dx L S) : L.n ≠ L.w := ne_of D.nm D.wr (fun z => nomatch z)
theorem DkAt.nb (D : DkAt H x CD dx L S) : L.n ≠ L.b := ne_of D.nm D.bk (fun z => nomatch z)
theorem DkAt.nr (D : DkAt H x CD dx L S) : L.n ≠ L.r := ne_of D.nm D.ag (fun z => nomatch z)
theorem DkAt.sw (D : DkAt H x CD dx L S) : L.s ≠ L.w := ne_of D.se D.wr (fun z => nomatch z)
theorem DkAt.sb (D : DkAt H x CD dx L S) : L.s ≠ L.b := ne_of D.se D.bk (fun z => nomatch z)
theorem DkAt.sr (D : DkAt H x CD dx L S) : L.s ≠ L.r := ne_of D.se D.ag (fun z => nomatch z)
theorem Off.updN (o : HO) : Off x L H (upd H L.n o) := fun a o' _ n2 _ _ _ _ e => by rw [upd_ne n2]; exact e
theorem Off.updS (o : HO) : Off x L H (upd H L.s o) := fun a o' _ _ n2 _ _ _ e => by rw [upd_ne n2]; exact e
theorem Off.updW (o : HO) : Off x L H (upd H L.w o) := fun a o' _ _ _ n2 _ _ e => by rw [upd_ne n2]; exact e
theorem Off.updB (o : HO) : Off x L H (upd H L.b o) := fun a o' _ _ _ _ n2 _ e => by rw [upd_ne n2]; exact e
theorem Off.updR (o : HO) : Off x L H (upd H L.r o) := fun a o' _ _ _ _ _ n2 e => by rw [upd_ne n2]; exact e
theorem Off.updX (o : HO) : Off x L H (upd H x o) := fun a o' n2 _ _ _ _ _ e => by rw [upd_ne n2]; exact e
theorem DkAt.setN (D : DkAt H x CD dx L S) {g : Nm → Int} : DkAt (upd H L.n (.dK (namesL g))) x CD dx L { S with nm := g } :=
  ⟨by rw [upd_ne D.xn]; exact D.ins, upd_same, by rw [upd_ne D.ns.symm]; exact D.se, by rw [upd_ne D.nw.symm]; exact D.wr, by rw [upd_ne D.nb.symm]; exact D.bk, by rw [upd_ne D.nr.symm]; exact D.ag, D.ns, D.wb, D.wg, D.bg⟩
theorem DkAt.setS (D : DkAt H x CD dx L S) {g : List (Int × Int)} : DkAt (upd H L.s (.dK (sealK g))) x CD dx L { S with se := g } :=
  ⟨by rw [upd_ne D.xs]; exact D.ins, by rw [upd_ne D.ns]; exact D.nm, upd_same, by rw [upd_ne D.sw.symm]; exact D.wr, by rw [upd_ne D.sb.symm]; exact D.bk, by rw [upd_ne D.sr.symm]; exact D.ag, D.ns, D.wb, D.wg, D.bg⟩
theorem DkAt.setW (D : DkAt H x CD dx L S) {g : List Int} : DkAt (upd H L.w (.lst (g.map V.int))) x CD dx L { S with wr := g } :=
  ⟨by rw [upd_ne D.xw]; exact D.ins, by rw [upd_ne D.nw]; exact D.nm, by rw [upd_ne D.sw]; exact D.se, upd_same, by rw [upd_ne D.wb.symm]; exact D.bk, by rw [upd_ne D.wg.symm]; exact D.ag, D.ns, D.wb, D.wg, D.bg⟩
theorem DkAt.setB (D : DkAt H x CD dx L S) {g : List Int} : DkAt (upd H L.b (.lst (g.map V.int))) x CD dx L { S with bk := g } :=
  ⟨by rw [upd_ne D.xb]; exact D.ins, by rw [upd_ne D.nb]; exact D.nm, by rw [upd_ne D.sb]; exact D.se, by rw [upd_ne D.wb]; exact D.wr, upd_same, by rw [upd_ne D.bg.symm]; exact D.ag, D.ns, D.wb, D.wg, D.bg⟩
theorem DkAt.setR (D : DkAt H x CD dx L S) {g : List Int} : DkAt (upd H L.r (.lst (g.map V.int))) x CD dx L { S with ag := g } :=
  ⟨by rw [upd_ne D.xr]; exact D.ins, by rw [upd_ne D.nr]; exact D.nm, by rw [upd_ne D.sr]; exact D.se, by rw [upd_ne D.wg]; exact D.wr, by rw [upd_ne D.bg]; exact D.bk, upd_same, D.ns, D.wb, D.wg, D.bg⟩
theorem DkAt.setX (D : DkAt H x CD dx L S) {g : Bool} : DkAt (upd H x (.ins CD dx (dkF L S.sz g))) x CD dx L { S with ch := g } :=
  ⟨upd_same, by rw [upd_ne D.xn.symm]; exact D.nm, by rw [upd_ne D.xs.symm]; exact D.se, by rw [upd_ne D.xw.symm]; exact D.wr, by rw [upd_ne D.xb.symm]; exact D.bk, by rw [upd_ne D.xr.symm]; exact D.ag, D.ns, D.wb, D.wg, D.bg⟩
theorem chg_put (L : DkL) (sz : Int) (a b : Bool) : putF "is_changed" (.bl b) (dkF L sz a) = dkF L sz b := by kernel_rfl
end
theorem upd_at {H : Hp} {a : Addr} {o : HO} (_ : H a = none) : upd H a o a = some o := upd_same
/-- an object that gets its fields; all else stands -/
structure AtF (H G : Hp) (d C dd : Addr) (fs : List (Str × V)) : Prop where
  kp : ∀ a o, a ≠ d → H a = some o → G a = some o
  at_ : G d = some (.ins C dd fs)
theorem AtF.put {H G : Hp} {d C dd : Addr} {fs fs' : List (Str × V)} {f : Str} {v : V} (h : AtF H G d C dd fs) (e : putF f v fs = fs') : AtF H (upd G d (.ins C dd (putF f v fs))) d C dd fs' :=
  ⟨fun a o n e => by rw [upd_ne n]; exact h.kp a o n e, by rw [upd_same, e]⟩
theorem AtF.same {H G G' : Hp} {d C dd : Addr} {fs : List (Str × V)} (h : AtF H G d C dd fs) (s : Same G G') : AtF H G' d C dd fs := ⟨fun a o n e => s _ _ (h.kp a o n e), s _ _ h.at_⟩
theorem AtF.but {H G : Hp} {d C dd q : Addr} {fs : List (Str × V)} {o : HO} (h : AtF H G d C dd fs) (hq : q ≠ d) (hn : H q = none) : AtF H (upd G q o) d C dd fs :=
  ⟨fun a o n e => by rw [upd_ne (fun z => by rw [z, hn] at e; cases e)]; exact h.kp a o n e, by rw [upd_ne hq.symm]; exact h.at_⟩
theorem AtF.free {H G : Hp} {d C dd q : Addr} {fs : List (Str × V)} (h : AtF H G d C dd fs) (hn : G q = none) : q ≠ d ∧ H q = none := by
  have n : q ≠ d := fun z => by rw [z, h.at_] at hn; cases hn
  refine ⟨n, ?_⟩
  cases e : H q with
  | none => rfl
  | some o => rw [h.kp q o n e] at hn; cases hn
abbrev sBi : Stmt := inClass (top 60) 0
abbrev sTf : Stmt := top 61
abbrev sIp : Stmt := top 62
theorem scBi : FnScope ["self", "size", "keep", "fields", "seals"] ["self", "size", "keep", "fields", "seals"] (defScope sBi) := ⟨rfl, rfl, rfl, by decide +kernel, rfl, by decide +kernel, by decide +kernel⟩
def NTf : List Str := ["desk", "name"]
theorem scTf : FnScope NTf ["desk"] (defScope sTf) := ⟨rfl, rfl, rfl, by decide +kernel, rfl, by decide +kernel, by decide +kernel⟩
theorem scIp : FnScope ["desk", "number"] ["desk", "number"] (defScope sIp) := ⟨rfl, rfl, rfl, by decide +kernel, rfl, by decide +kernel, by decide +kernel⟩
def fldBd : List Str := ["names", "size", "seals", "written", "back", "again", "is_changed"]
structure OBd (K : PySem.W.Frag) (C : Addr) : Prop where
  cl : Cls K C
  no : ∀ f ∈ fldBd, NoAttr K C f
def fieldsN : List Nm := [.next, .many, .more, .own, .mark]
def fieldsW : List Str := ["next", "many", "more", "own", "mark"]
structure FTf (K : PySem.W.Frag) (mg : Str → Option Value) (f : Addr) (d : FuncData) : Prop where
  u : Fun K "told_fields_of" "told_fields_of" sTf f d
  b : Binds K d ["desk"] []
  g : mg "told_fields_of" = some (.ref f)
structure FIp (K : PySem.W.Frag) (mg : Str → Option Value) (f : Addr) (d : FuncData) : Prop where
  u : Fun K "is_place" "is_place" sIp f d
  b : Binds K d ["desk", "number"] []
  g : mg "is_place" = some (.ref f)
def beginN (sz kp f0 f1 f2 f3 f4 : Int) : Nm → Int
  | .size => sz
  | .keep => kp
  | .next => f0
  | .many => f1
  | .more => f2
  | .own => f3
  | .mark => f4
  | _ => 0
def spBi (K : PySem.W.Frag) (CD : Addr) : Sp := fun vs H Q _ => ∃ (x dx fa sa : Addr) (sz kp f0 f1 f2 f3 f4 : Int) (se : List (Int × Int)), vs = [.ref x, .int sz, .int kp, .ref fa, .ref sa] ∧ H x = some (.ins CD dx []) ∧ SqT K H fa [.int f0, .int f1, .int f2, .int f3, .int f4] ∧ H sa = some (.dK (sealK se)) ∧
  ∀ (L : DkL) H', (∀ a o, a ≠ x → H a = some o → H' a = some o) → H L.n = none → H L.s = none → H L.w = none → H L.b = none → H L.r = none → DkAt H' x CD dx L ⟨sz, beginN sz kp f0 f1 f2 f3 f4, se, [], [], [], false⟩ → Q .non H'
def toldF (S : Dk) : List Int := [S.nm .next, S.nm .many, S.nm .more, S.nm .own, S.nm .mark]
def spTf (CD : Addr) : Sp := fun vs H Q _ => ∃ (x dx : Addr) (L : DkL) (S : Dk), vs = [.ref x] ∧ DkAt H x CD dx L S ∧ ∀ (p : Addr) H', H p = none → Same H H' → H' p = some (.tup ((toldF S).map V.int)) → Q (.ref p) H'
def spIp (CD : Addr) : Sp := fun vs H Q _ => ∃ (x dx : Addr) (L : DkL) (S : Dk) (i : Int), vs = [.ref x, .int i] ∧ DkAt H x CD dx L S ∧ Q (.bl (decide (0 ≤ i) && decide (i < S.sz))) H
section
variable {P : Program} {w : World} {K : PySem.W.Frag} {mg : Str → Option Value} {base : Heap}
theorem get_nm {H : Hp} {x CD dx : Addr} {L : DkL} {S : Dk} (D : DkAt H x CD dx L S) (n : Nm) : DGet H L.n (.str (nmS n)) (some (.int (S.nm n))) := by
  have q := DGet.k (k := (Sum.inr (nmS n) : Key)) D.nm
  rw [names_val] at q
  exact q
theorem get_se {H : Hp} {x CD dx : Addr} {L : DkL} {S : Dk} (D : DkAt H x CD dx L S) (i : Int) : DGet H L.s (.int i) ((valI S.se i).map V.int) := by
  have q := DGet.k (k := (Sum.inl i : Key)) D.se
  rw [val_seal] at q
  exact q
theorem ok_bi {f CD pF : Addr} {fd : FuncData} (F : Fun K "__init__" "BookDesk.__init__" sBi f fd) (O : OBd K CD) (gF : mg "FIELDS" = some (.ref pF)) (tF : KTup K pF (fieldsW.map V.str)) (T : Gv mg) : FnOk P w K mg base CX0 1 f fd ["self", "size", "keep", "fields", "seals"] (spBi K CD) := by
  refine F.ok scBi (fun vs H Q E h => ?_) (fun cdv A outer s H vs Q E hr h => ?_)
  · obtain ⟨x, dx, fa, sa, sz, kp, f0, f1, f2, f3, f4, se, rfl, _⟩ := h
    rfl
  · obtain ⟨x, dx, fa, sa, sz, kp, f0, f1, f2, f3, f4, se, rfl, hx, hfa, hsa, k⟩ := h
    have hu := hu_of hr
    refine ⟨_, (pss_cons (ps_fld (pv 0) (pe_disp (pps_cons pe_str (pv 1) (pps_cons pe_str (pv 2) (pps_cons pe_str pe_int (pps_cons pe_str pe_int (pps_cons pe_str pe_int pps_nil))))) (by rfl) (by rfl) (fun z => by cases z) (by decide)) rfl)
 (pss_cons (ps_expr (pe_bm PySem.F.plainAttrs_dict PySem.F.slot_dict_update PySem.F.type_dict_update mt_update (pe_fld (pv 0) rfl) (pa_cons (pe_dictZip rfl (by rfl) T.dict (by rfl) T.zip (pa_cons (pe_glob rfl gF (v := .ref pF) rfl) (pa_cons (pv 3) pa_nil))) pa_nil)))
 (pss_cons (ps_fld (pv 0) (pv 1) rfl)
 (pss_cons (ps_fld (pv 0) (pe_callTy call_dictD (by rfl) T.dict (by decide +kernel) (pa_cons (pv 4) pa_nil)) rfl)
 (pss_cons (ps_fld (pv 0) (pe_lst pa_nil) rfl)
 (pss_cons (ps_fld (pv 0) (pe_lst pa_nil) rfl)
 (pss_cons (ps_fld (pv 0) (pe_lst pa_nil) rfl)
 (pss_one (ps_fld (pv 0) pe_bl rfl))))))))), ?_⟩
    have A0 : AtF H H x CD dx [] := ⟨fun _ _ _ e => e, hx⟩
    intro n hn
    obtain ⟨nx, fn⟩ := A0.free hn
    refine ⟨_, rfl, _, rfl, upd_same, [(.inr "size", .int sz), (.inr "keep", .int kp), (.inr "a", .int 0), (.inr "b", .int 0), (.inr "c", .int 0)], rfl, (by show 5 ≤ 15; decide), ?_⟩
    rw [upd_upd, show mergeK [] [((.inr "size" : Key), V.int sz), (.inr "keep", .int kp), (.inr "a", .int 0), (.inr "b", .int 0), (.inr "c", .int 0)] = [((.inr "size" : Key), V.int sz), (.inr "keep", .int kp), (.inr "a", .int 0), (.inr "b", .int 0), (.inr "c", .int 0)] from by kernel_rfl]
    have A1' := A0.but (o := .dK [((.inr "size" : Key), V.int sz), (.inr "keep", .int kp), (.inr "a", .int 0), (.inr "b", .int 0), (.inr "c", .int 0)]) nx fn
    have n0 : upd H n (.dK [((.inr "size" : Key), V.int sz), (.inr "keep", .int kp), (.inr "a", .int 0), (.inr "b", .int 0), (.inr "c", .int 0)]) n = some (.dK [((.inr "size" : Key), V.int sz), (.inr "keep", .int kp), (.inr "a", .int 0), (.inr "b", .int 0), (.inr "c", .int 0)]) := upd_same
    have g0 : Same H (upd H n (.dK [((.inr "size" : Key), V.int sz), (.inr "keep", .int kp), (.inr "a", .int 0), (.inr "b", .int 0), (.inr "c", .int 0)])) := same_new fn
    generalize upd H n _ = G0 at *
    refine ⟨_, rfl, x, CD, dx, [], rfl, A1'.at_, O.cl, O.no "names" (by decide +kernel), by decide, ?_⟩
    have A1 := A1'.put (f := "names") (v := .ref n) (fs' := [("names", .ref n)]) rfl
    have n1 : upd G0 x (.ins CD dx (putF "names" (.ref n) [])) n = some (.dK [((.inr "size" : Key), V.int sz), (.inr "keep", .int kp), (.inr "a", .int 0), (.inr "b", .int 0), (.inr "c", .int 0)]) := by rw [upd_ne nx]; exact n0
    generalize upd G0 x _ = G1 at *
    have kT : ∀ {G : Hp}, (∀ a o, a ≠ x → H a = some o → G a = some o) → SqT K G fa [.int f0, .int f1, .int f2, .int f3, .int f4] := fun {G} kk => by
      refine KeepT.seq (fun a xs ha => ?_) hfa
      have na : a ≠ x := fun z => by
        subst z
        rcases ha with ha | ⟨o, ha⟩ <;> rw [hx] at ha <;> cases ha
      rcases ha with ha | ⟨o, ha⟩
      · exact .inl (kk _ _ na ha)
      · exact .inr ⟨o, kk _ _ na ha⟩
    refine ⟨_, rfl, x, CD, dx, _, .ref n, rfl, A1.at_, O.cl, O.no "names" (by decide +kernel), rfl, .inr (.inr (.inl ⟨rfl, .inl ⟨_, n1⟩⟩)), _, rfl, pF, fa, fieldsW.map Sum.inr, _, rfl, tF.sq, kT A1.kp, rfl, fun p hp => ?_⟩
    obtain ⟨px, fp⟩ := A1.free hp
    have np : n ≠ p := fun z => by rw [z, hp] at n1; cases n1
    have A2 := A1.but (o := .dK (mergeK [] ((fieldsW.map Sum.inr : List Key).zip [.int f0, .int f1, .int f2, .int f3, .int f4]))) px fp
    have n2 : upd G1 p (.dK (mergeK [] ((fieldsW.map Sum.inr : List Key).zip [.int f0, .int f1, .int f2, .int f3, .int f4]))) n = _ := (upd_ne np).trans n1
    have p2 : upd G1 p (.dK (mergeK [] ((fieldsW.map Sum.inr : List Key).zip [.int f0, .int f1, .int f2, .int f3, .int f4]))) p = _ := upd_same
    refine ⟨n, p, _, _, rfl, rfl, n2, p2, np, Nat.le_trans (Nat.add_le_add_left (length_mergeK _ []) _) (by show 5 + (0 + 5) ≤ sizeLine; decide), ?_⟩
    rw [show mergeK [((.inr "size" : Key), V.int sz), (.inr "keep", .int kp), (.inr "a", .int 0), (.inr "b", .int 0), (.inr "c", .int 0)] (mergeK [] ((fieldsW.map Sum.inr : List Key).zip [.int f0, .int f1, .int f2, .int f3, .int f4])) = namesL (beginN sz kp f0 f1 f2 f3 f4) from by kernel_rfl]
    generalize upd G1 p _ = G2 at *
    have A3' := A2.but (o := .dK (namesL (beginN sz kp f0 f1 f2 f3 f4))) nx fn
    have n3 : upd G2 n (.dK (namesL (beginN sz kp f0 f1 f2 f3 f4))) n = some (.dK (namesL (beginN sz kp f0 f1 f2 f3 f4))) := upd_same
    generalize upd G2 n _ = G3 at *
    refine ⟨_, rfl, _, rfl, x, CD, dx, _, rfl, A3'.at_, O.cl, O.no "size" (by decide +kernel), (by show 1 < 1000; decide), ?_⟩
    have A3 := A3'.put (f := "size") (v := .int sz) (fs' := [("names", .ref n), ("size", .int sz)]) (by kernel_rfl)
    have n4 : upd G3 x (.ins CD dx (putF "size" (.int sz) [("names", .ref n)])) n = _ := (upd_ne nx).trans n3
    generalize upd G3 x _ = G4 at *
    have hsa4 := A3.kp sa _ (fun z => by rw [z, hx] at hsa; cases hsa) hsa
    refine ⟨_, rfl, sa, _, rfl, .inl hsa4, fun s hs => ?_⟩
    obtain ⟨sx, fs⟩ := A3.free hs
    have g5 : Same G4 (upd G4 s (.dK (sealK se))) := same_new hs
    have s5 : upd G4 s (.dK (sealK se)) s = some (.dK (sealK se)) := upd_same
    have A4' := A3.same g5
    have n5 := g5 _ _ n4
    generalize upd G4 s _ = G5 at *
    refine ⟨_, rfl, x, CD, dx, _, rfl, A4'.at_, O.cl, O.no "seals" (by decide +kernel), (by show 2 < 1000; decide), ?_⟩
    have A4 := A4'.put (f := "seals") (v := .ref s) (fs' := [("names", .ref n), ("size", .int sz), ("seals", .ref s)]) (by kernel_rfl)
    have n6 : upd G5 x (.ins CD dx (putF "seals" (.ref s) [("names", .ref n), ("size", .int sz)])) n = _ := (upd_ne nx).trans n5
    have s6 : upd G5 x (.ins CD dx (putF "seals" (.ref s) [("names", .ref n), ("size", .int sz)])) s = _ := (upd_ne sx).trans s5
    generalize upd G5 x _ = G6 at *
    refine ⟨Nat.zero_le _, fun w hw => ?_⟩
    obtain ⟨wx, fw⟩ := A4.free hw
    have g7 : Same G6 (upd G6 w (.lst (([] : List Int).map V.int))) := same_new hw
    have w7 : upd G6 w (.lst (([] : List Int).map V.int)) w = some (.lst (([] : List Int).map V.int)) := upd_same
    have A5' := A4.same g7
    have n7 := g7 _ _ n6
    have s7 := g7 _ _ s6
    refine ⟨_, rfl, x, CD, dx, _, rfl, A5'.at_, O.cl, O.no "written" (by decide +kernel), (by show 3 < 1000; decide), ?_⟩
    have A5 := A5'.put (f := "written") (v := .ref w) (fs' := [("names", .ref n), ("size", .int sz), ("seals", .ref s), ("written", .ref w)]) (by kernel_rfl)
    have n8 := (upd_ne (o := .ins CD dx (putF "written" (.ref w) [("names", .ref n), ("size", .int sz), ("seals", .ref s)])) nx).trans n7
    have s8 := (upd_ne (o := .ins CD dx (putF "written" (.ref w) [("names", .ref n), ("size", .int sz), ("seals", .ref s)])) sx).trans s7
    have w8 := (upd_ne (o := .ins CD dx (putF "written" (.ref w) [("names", .ref n), ("size", .int sz), ("seals", .ref s)])) wx).trans w7
    refine ⟨Nat.zero_le _, fun b hb => ?_⟩
    obtain ⟨bx, fb⟩ := A5.free hb
    have g9 := same_new (o := .lst (([] : List Int).map V.int)) hb
    have A6' := A5.same g9
    refine ⟨_, rfl, x, CD, dx, _, rfl, A6'.at_, O.cl, O.no "back" (by decide +kernel), (by show 4 < 1000; decide), ?_⟩
    have A6 := A6'.put (f := "back") (v := .ref b) (fs' := [("names", .ref n), ("size", .int sz), ("seals", .ref s), ("written", .ref w), ("back", .ref b)]) (by kernel_rfl)
    have b9 := upd_at (o := .lst (([] : List Int).map V.int)) hb
    have n10 := (upd_ne (o := .ins CD dx (putF "back" (.ref b) [("names", .ref n), ("size", .int sz), ("seals", .ref s), ("written", .ref w)])) nx).trans (g9 _ _ n8)
    have s10 := (upd_ne (o := .ins CD dx (putF "back" (.ref b) [("names", .ref n), ("size", .int sz), ("seals", .ref s), ("written", .ref w)])) sx).trans (g9 _ _ s8)
    have w10 := (upd_ne (o := .ins CD dx (putF "back" (.ref b) [("names", .ref n), ("size", .int sz), ("seals", .ref s), ("written", .ref w)])) wx).trans (g9 _ _ w8)
    have b10 := (upd_ne (o := .ins CD dx (putF "back" (.ref b) [("names", .ref n), ("size", .int sz), ("seals", .ref s), ("written", .ref w)])) bx).trans b9
    have wb : w ≠ b := ne_of_none w8 hb
    refine ⟨Nat.zero_le _, fun r hr' => ?_⟩
    obtain ⟨rx, fr⟩ := A6.free hr'
    have g11 := same_new (o := .lst (([] : List Int).map V.int)) hr'
    have wg : w ≠ r := ne_of_none w10 hr'
    have bg : b ≠ r := ne_of_none b10 hr'
    have A7' := A6.same g11
    refine ⟨_, rfl, x, CD, dx, _, rfl, A7'.at_, O.cl, O.no "again" (by decide +kernel), (by show 5 < 1000; decide), ?_⟩
    have A7 := A7'.put (f := "again") (v := .ref r) (fs' := [("names", .ref n), ("size", .int sz), ("seals", .ref s), ("written", .ref w), ("back", .ref b), ("again", .ref r)]) (by kernel_rfl)
    refine ⟨_, rfl, x, CD, dx, _, rfl, A7.at_, O.cl, O.no "is_changed" (by decide +kernel), (by show 6 < 1000; decide), ?_⟩
    have A8 := A7.put (f := "is_changed") (v := .bl false) (fs' := dkF ⟨n, s, w, b, r⟩ sz false) (by kernel_rfl)
    have ns : n ≠ s := fun z => by rw [z, hs] at n4; cases n4
    refine k ⟨n, s, w, b, r⟩ _ A8.kp fn fs fw fb fr ⟨A8.at_, ?_, ?_, ?_, ?_, ?_, ns, wb, wg, bg⟩
    · exact (upd_ne nx).trans ((upd_ne nx).trans (g11 _ _ n10))
    · exact (upd_ne sx).trans ((upd_ne sx).trans (g11 _ _ s10))
    · exact (upd_ne wx).trans ((upd_ne wx).trans (g11 _ _ w10))
    · exact (upd_ne bx).trans ((upd_ne bx).trans (g11 _ _ b10))
    · exact (upd_ne rx).trans ((upd_ne rx).trans upd_same)
theorem ok_tf {f CD pF : Addr} {fd : FuncData} (F : Fun K "told_fields_of" "told_fields_of" sTf f fd) (O : OBd K CD) (gF : mg "FIELDS" = some (.ref pF)) (tF : KTup K pF (fieldsW.map V.str)) (T : Gv mg) : FnOk P w K mg base CX0 1 f fd ["desk"] (spTf CD) := by
  refine F.ok scTf (fun vs H Q E h => ?_) (fun cdv A outer s H vs Q E hr h => ?_)
  · obtain ⟨x, dx, L, S, rfl, _⟩ := h
    rfl
  · obtain ⟨x, dx, L, S, rfl, D, k⟩ := h
    have hu := hu_of hr
    refine ⟨_, (pss_one (ps_ret (pe_callTy call_tuple_of (by rfl) T.tuple (by decide +kernel) (pa_cons (pe_lc (own := [("name", 1)]) (g := (gName 1)) (by rfl) scTf.nd (pi_tup (pe_glob rfl gF (v := .ref pF) rfl)) (blkOk_by (N := NTf) (sc := defScope sTf) (by decide +kernel)) (fun _ _ _ _ _ => (pg_name (i := 1) scTf.nd rfl (.inl rfl))) (fun _ _ _ _ _ => pts_nil) (fun _ _ _ _ _ => (pe_dget hu (pe_fldK K rfl (pv 0) rfl) (pv 1) (fun _ _ => rfl)))) pa_nil)))), ?_⟩
    refine ⟨pF, rfl, ⟨_, tF.sq⟩, fun E hE => lc_tup (K := K) (a := pF) (xs := fieldsW.map V.str) (fun i G => Same H G ∧ G E = some (.lst (((toldF S).take i).map V.int))) ⟨same_new hE, upd_same⟩ (fun i G _ _ => tF.sq) ?_ ?_⟩
    · rintro i y G hi ⟨sG, hG⟩
      have hi : (fieldsN.map fun n => V.str (nmS n))[i]? = some y := hi
      rw [List.getElem?_map] at hi
      obtain ⟨n, hn, rfl⟩ := Option.map_eq_some_iff.mp hi
      refine ⟨rfl, _, rfl, x, CD, dx, _, _, rfl, sG _ _ D.ins, O.cl, O.no "names" (by decide +kernel), rfl, _, rfl, L.n, _, rfl, get_nm (D.same sG) n, ?_⟩
      refine ⟨_, hG, (by rw [List.length_map, List.length_take, sizeLine_eq]; show min i 5 < _; omega), fun c o e => ?_, ?_⟩
      · rw [upd_ne (fun y => by rw [y, hE] at e; cases e)]; exact sG _ _ e
      · have ht : (toldF S)[i]? = some (S.nm n) := by
          show (fieldsN.map S.nm)[i]? = _
          rw [List.getElem?_map, hn]; rfl
        rw [upd_same, take_snoc'' ht, List.map_append]; rfl
    · rintro G ⟨sG, hG⟩
      have hG : G E = some (.lst ((toldF S).map V.int)) := hG
      refine ⟨E, _, rfl, .inl ⟨SqL.of hG, fun t ht => k t _ (sG.free ht) (sG.trans (same_new ht)) upd_same⟩⟩
theorem ok_ip {f CD : Addr} {fd : FuncData} (F : Fun K "is_place" "is_place" sIp f fd) (O : OBd K CD) : FnOk P w K mg base CX0 1 f fd ["desk", "number"] (spIp CD) := by
  refine F.ok scIp (fun vs H Q E h => ?_) (fun cdv A outer s H vs Q E hr h => ?_)
  · obtain ⟨x, dx, L, S, i, rfl, _⟩ := h
    rfl
  · obtain ⟨x, dx, L, S, i, rfl, D, k⟩ := h
    refine ⟨_, (pss_one (ps_ret (pe_chain op_le op_lt pe_int (pv 1) (pe_fld (pv 0) rfl)))), ?_⟩
    refine ⟨_, rfl, _, _, rfl, rfl, _, rfl, ?_⟩
    by_cases h0 : 0 ≤ i
    · rw [decide_eq_true h0, Bool.true_and] at k
      exact iteY h0 ⟨_, rfl, x, CD, dx, _, .int S.sz, rfl, D.ins, O.cl, O.no "size" (by decide +kernel), rfl, _, _, rfl, rfl, k⟩
    · rw [decide_eq_false h0, Bool.false_and] at k
      exact iteN h0 k
end
end IdL
namespace IdL
open PySem L2 TL
/-! ### terms, tests, names -/
inductive Tv
  | nm (n : Nm)
  | num (i : Int)
def tvV : Tv → V
  | .nm n => .str (nmS n)
  | .num i => .int i
def tvD : Tv → PyData
  | .nm n => .str (nmS n)
  | .num i => .int i
def tvI (S : Dk) : Tv → Int
  | .nm n => S.nm n
  | .num i => i
def tmF (t : Int × Tv) : PyData := .tuple [.int t.1, tvD t.2]
inductive Sg
  | lt | le | is
  deriving DecidableEq
def sgS : Sg → Str
  | .lt => "<"
  | .le => "<="
  | .is => "is"
def cmpI : Int → Sg → Int → Bool
  | l, .lt, r => decide (l < r)
  | l, .le, r => decide (l ≤ r)
  | l, .is, r => decide (l = r)
structure Pt where
  w : Bool
  s : Sg
  l : Tv
  r : Tv
def ptF (p : Pt) : PyData := .tuple [.bool p.w, .str (sgS p.s), tvD p.l, tvD p.r]
theorem tv_td {K : PySem.W.Frag} {H : Hp} {v : V} {t : Tv} (h : TD K H v (tvD t)) : v = tvV t := by
  cases t with
  | nm n => cases h; rfl
  | num i => cases h; rfl
theorem td_get {K : PySem.W.Frag} {H : Hp} {α : Type} {f : α → PyData} : ∀ {xs : List V} {ts : List α}, TDs K H xs (ts.map f) → ∀ {i : Nat} {x : V}, xs[i]? = some x → ∃ t, ts[i]? = some t ∧ TD K H x (f t)
  | _, [], h, i, x, hx => by cases h; cases hx
  | _, t :: ts, .cons a b, 0, x, hx => by cases hx; exact ⟨t, rfl, a⟩
  | _, t :: ts, .cons a b, i + 1, x, hx => td_get (ts := ts) b hx
theorem term_at {K : PySem.W.Frag} {H : Hp} {v : V} {t : Int × Tv} (h : TD K H v (tmF t)) : ∃ p, v = .ref p ∧ SqT K H p [.int t.1, tvV t.2] := by
  cases h with
  | tup q r =>
    cases r with
    | cons r1 r2 =>
      cases r2 with
      | cons r2 r3 =>
        cases r3
        cases r1
        rw [tv_td r2] at q
        exact ⟨_, rfl, q⟩
theorem part_at {K : PySem.W.Frag} {H : Hp} {v : V} {p : Pt} (h : TD K H v (ptF p)) : ∃ a, v = .ref a ∧ SqT K H a [.bl p.w, .str (sgS p.s), tvV p.l, tvV p.r] := by
  cases h with
  | tup q r =>
    cases r with
    | cons r1 r2 =>
      cases r2 with
      | cons r2 r3 =>
        cases r3 with
        | cons r3 r4 =>
          cases r4 with
          | cons r4 r5 =>
            cases r5
            cases r1
            cases r2
            rw [tv_td r3, tv_td r4] at q
            exact ⟨_, rfl, q⟩
def sumF (S : Dk) (ts : List (Int × Tv)) : Int := (ts.map fun t => t.1 * tvI S t.2).sum
def testF (S : Dk) (ps : List Pt) : Bool := ps.all fun p => decide (cmpI (tvI S p.l) p.s (tvI S p.r) = p.w)
def setF (S : Dk) (n : Nm) (z : Int) : Bool × Dk := if n ∈ fieldsN then (if 0 ≤ z ∧ z ≤ S.sz then (true, { S with nm := setN S.nm n z, ch := true }) else (false, S)) else (true, { S with nm := setN S.nm n z })
abbrev sTv : Stmt := top 63
abbrev sSv : Stmt := top 64
abbrev sTh : Stmt := top 65
abbrev sSn : Stmt := top 66
abbrev sCm : Stmt := top 58
theorem scTv : FnScope ["desk", "term"] ["desk", "term"] (defScope sTv) := ⟨rfl, rfl, rfl, by decide +kernel, rfl, by decide +kernel, by decide +kernel⟩
def NSv : List Str := ["desk", "terms", "sign", "term"]
theorem scSv : FnScope NSv ["desk", "terms"] (defScope sSv) := ⟨rfl, rfl, rfl, by decide +kernel, rfl, by decide +kernel, by decide +kernel⟩
theorem scCm : FnScope ["left", "sign", "right"] ["left", "sign", "right"] (defScope sCm) := ⟨rfl, rfl, rfl, by decide +kernel, rfl, by decide +kernel, by decide +kernel⟩
def NTh : List Str := ["desk", "parts", "wanted", "sign", "left", "right"]
theorem scTh : FnScope NTh ["desk", "parts"] (defScope sTh) := ⟨rfl, rfl, rfl, by decide +kernel, rfl, by decide +kernel, by decide +kernel⟩
theorem scSn : FnScope ["desk", "name", "number"] ["desk", "name", "number"] (defScope sSn) := ⟨rfl, rfl, rfl, by decide +kernel, rfl, by decide +kernel, by decide +kernel⟩
structure FTv (K : PySem.W.Frag) (mg : Str → Option Value) (f : Addr) (d : FuncData) : Prop where
  u : Fun K "term_value" "term_value" sTv f d
  b : Binds K d ["desk", "term"] []
  g : mg "term_value" = some (.ref f)
structure FSv (K : PySem.W.Frag) (mg : Str → Option Value) (f : Addr) (d : FuncData) : Prop where
  u : Fun K "sum_value" "sum_value" sSv f d
  b : Binds K d ["desk", "terms"] []
  g : mg "sum_value" = some (.ref f)
structure FCm (K : PySem.W.Frag) (mg : Str → Option Value) (f : Addr) (d : FuncData) : Prop where
  u : Fun K "compare" "compare" sCm f d
  b : Binds K d ["left", "sign", "right"] []
  g : mg "compare" = some (.ref f)
structure FTh (K : PySem.W.Frag) (mg : Str → Option Value) (f : Addr) (d : FuncData) : Prop where
  u : Fun K "test_holds" "test_holds" sTh f d
  b : Binds K d ["desk", "parts"] []
  g : mg "test_holds" = some (.ref f)
structure FSn (K : PySem.W.Frag) (mg : Str → Option Value) (f : Addr) (d : FuncData) : Prop where
  u : Fun K "set_name" "set_name" sSn f d
  b : Binds K d ["desk", "name", "number"] []
  g : mg "set_name" = some (.ref f)
def spTv (CD : Addr) : Sp := fun vs H Q _ => ∃ (x dx : Addr) (L : DkL) (S : Dk) (t : Tv), vs = [.ref x, tvV t] ∧ DkAt H x CD dx L S ∧ Q (.int (tvI S t)) H
def SumOk (ts : List (Int × Tv)) : Prop := ts.length ≤ 1000 ∧ ∀ t ∈ ts, -1 ≤ t.1 ∧ t.1 ≤ 1
def spSv (K : PySem.W.Frag) (CD : Addr) : Sp := fun vs H Q _ => ∃ (x dx : Addr) (L : DkL) (S : Dk) (v : V) (ts : List (Int × Tv)), vs = [.ref x, v] ∧ DkAt H x CD dx L S ∧ TD K H v (.tuple (ts.map tmF)) ∧ SumOk ts ∧ ∀ H', Same H H' → Q (.int (sumF S ts)) H'
def spCm : Sp := fun vs H Q _ => ∃ (l r : Int) (s : Sg), vs = [.int l, .str (sgS s), .int r] ∧ Q (.bl (cmpI l s r)) H
def spTh (K : PySem.W.Frag) (CD : Addr) : Sp := fun vs H Q _ => ∃ (x dx : Addr) (L : DkL) (S : Dk) (v : V) (ps : List Pt), vs = [.ref x, v] ∧ DkAt H x CD dx L S ∧ TD K H v (.tuple (ps.map ptF)) ∧ ps.length ≤ 1000 ∧ ∀ H', Same H H' → Q (.bl (testF S ps)) H'
/-- what a step of a play does -/
def StepQ (CD x dx : Addr) (L : DkL) (H : Hp) (Q : VK) (r : Bool × Dk) : Prop := ∀ H', Off x L H H' → DkAt H' x CD dx L r.2 → Q (.bl r.1) H'
def spSn (CD : Addr) : Sp := fun vs H Q _ => ∃ (x dx : Addr) (L : DkL) (S : Dk) (n : Nm) (z : Int), vs = [.ref x, .str (nmS n), .int z] ∧ DkAt H x CD dx L S ∧ StepQ CD x dx L H Q (setF S n z)
section
variable {P : Program} {w : World} {K : PySem.W.Frag} {mg : Str → Option Value} {base : Heap}
theorem ok_tv {f CD : Addr} {fd : FuncData} (F : Fun K "term_value" "term_value" sTv f fd) (O : OBd K CD) (T : Gv mg) : FnOk P w K mg base CX0 1 f fd ["desk", "term"] (spTv CD) := by
  refine F.ok scTv (fun vs H Q E h => ?_) (fun cdv A outer s H vs Q E hr h => ?_)
  · obtain ⟨x, dx, L, S, t, rfl, _⟩ := h
    rfl
  · obtain ⟨x, dx, L, S, t, rfl, D, k⟩ := h
    have hu := hu_of hr
    refine ⟨_, (pss_one (ps_ret (pe_cut (pe_ifExp (pt_val (pe_callB call_isi (by rfl) T.isi (by decide +kernel) (pa_cons (pv 1) (pa_cons (pe_bltn (v := .ty "int") rfl T.int (by decide +kernel) rfl) pa_nil)))) (pv 1) (pe_dget hu (pe_fld (pv 0) rfl) (pv 1) (fun _ _ => rfl)))))), ?_⟩
    refine ⟨fun v G => Q v G, ?_, fun v G q => q⟩
    cases t with
    | nm n => exact ⟨_, rfl, .str (nmS n), .ty "int", .type "str", .type "int", false, rfl, .ty _, .base (.str _), kit_ty (by decide +kernel), _, rfl, iteF ⟨_, rfl, x, CD, dx, _, _, rfl, D.ins, O.cl, O.no "names" (by decide +kernel), rfl, _, rfl, L.n, _, rfl, get_nm D n, k⟩⟩
    | num i => exact ⟨_, rfl, .int i, .ty "int", .type "int", .type "int", true, rfl, .ty _, .base (.int i), kit_ty (by decide +kernel), _, rfl, iteT ⟨_, rfl, k⟩⟩
theorem ok_sv {f fT CD : Addr} {fd dT : FuncData} (F : Fun K "sum_value" "sum_value" sSv f fd) (TV : FTv K mg fT dT) (OT : FnOk P w K mg base CX0 1 fT dT ["desk", "term"] (spTv CD)) (T : Gv mg) : FnOk P w K mg base CX0 2 f fd ["desk", "terms"] (spSv K CD) := by
  refine F.ok scSv (fun vs H Q E h => ?_) (fun cdv A outer s H vs Q E hr h => ?_)
  · obtain ⟨x, dx, L, S, v, ts, rfl, _⟩ := h
    rfl
  · obtain ⟨x, dx, L, S, v, ts, rfl, D, td, ⟨few, sg⟩, k⟩ := h
    refine ⟨_, (pss_one (ps_ret (pe_callB (cr_sum rfl) (by rfl) T.sum (by decide +kernel) (pa_cons (pe_lc (own := [("sign", 2), ("term", 3)]) (g := (gTup K 2 (gCons (gName 2) (gCons (gName 3) gNil)))) (by rfl) scSv.nd (pi_tup (pv 1)) (blkOk_by (N := NSv) (sc := defScope sSv) (by decide +kernel)) (fun _ _ _ _ _ => (pg_tup rfl (pgs_cons (pg_name (i := 2) scSv.nd rfl (.inl rfl)) (pgs_cons (pg_name (i := 3) scSv.nd rfl (.inl rfl)) pgs_nil)))) (fun _ _ _ _ _ => pts_nil) (fun _ _ _ _ _ => (pe_op op_mul (pv 2) (pe_call OT hr rfl TV.g TV.u.kp TV.b .nil pass0 (pa_cons (pv 0) (pa_cons (pv 3) pa_nil)))))) pa_nil)))), ?_⟩
    obtain ⟨a, xs, rfl, ha, tds⟩ := td.tupl
    have lx : xs.length = ts.length := by rw [tds.len, List.length_map]
    refine ⟨_, rfl, a, rfl, ⟨_, ha⟩, fun E hE => lc_tup (K := K) (a := a) (xs := xs) (fun i G => Same H G ∧ G E = some (.lst (((ts.take i).map fun t => t.1 * tvI S t.2).map V.int))) ⟨same_new hE, upd_same⟩ (fun i G _ ⟨s, _⟩ => Same.tup s ha) ?_ ?_⟩
    · rintro i y G hi ⟨sG, hG⟩
      obtain ⟨t, ht, tt⟩ := td_get tds hi
      obtain ⟨p, rfl, hp⟩ := term_at tt
      obtain ⟨g1, g2⟩ := sg t (List.mem_of_getElem? ht)
      have li := (List.getElem?_eq_some_iff.mp ht).1
      refine ⟨p, _, rfl, Same.tup sG hp, rfl, _, _, rfl, _, _, rfl, rfl, rfl, ?_⟩
      refine ⟨_, rfl, _, rfl, _, rfl, x, dx, L, S, t.2, rfl, D.same sG, _, _, rfl, rfl, .inl ⟨by omega, by omega⟩, ?_⟩
      refine ⟨_, hG, (by rw [List.length_map, List.length_map, List.length_take, sizeLine_eq]; omega), fun c o e => ?_, ?_⟩
      · rw [upd_ne (fun y => by rw [y, hE] at e; cases e)]; exact sG _ _ e
      · rw [upd_same, take_snoc'' ht, List.map_append, List.map_append]; rfl
    · rintro G ⟨sG, hG⟩
      rw [lx, List.take_length] at hG
      exact ⟨E, _, rfl, SqL.of hG, k G sG⟩
theorem ok_cm {f : Addr} {fd : FuncData} (F : Fun K "compare" "compare" sCm f fd) : FnOk P w K mg base CX0 1 f fd ["left", "sign", "right"] spCm := by
  refine F.ok scCm (fun vs H Q E h => ?_) (fun cdv A outer s H vs Q E hr h => ?_)
  · obtain ⟨l, r, g, rfl, _⟩ := h
    rfl
  · obtain ⟨l, r, g, rfl, k⟩ := h
    refine ⟨_, (pss_cons (ps_if (pt_cmpR op_eq (pv 1) pe_str (nomark _)) (pss_one (ps_ret (pe_cmpR op_lt (pv 0) (pv 2) (nomark _)))) pss_nil)
 (pss_cons (ps_if (pt_cmpR op_eq (pv 1) pe_str (nomark _)) (pss_one (ps_ret (pe_cmpR op_le (pv 0) (pv 2) (nomark _)))) pss_nil)
 (pss_one (ps_ret (pe_cmpR op_eq (pv 0) (pv 2) (nomark _)))))), ?_⟩
    cases g with
    | lt => exact ⟨_, rfl, rfl, _, rfl, iteY (show V.str (sgS .lt) = V.str "<" from rfl) ⟨_, rfl, _, rfl, _, _, rfl, rfl, k⟩⟩
    | le => exact ⟨_, rfl, rfl, _, rfl, iteN (show ¬ V.str (sgS .le) = V.str "<" from fun z => absurd (V.str.inj z) (by decide +kernel)) ⟨_, rfl, rfl, _, rfl, iteY (show V.str (sgS .le) = V.str "<=" from rfl) ⟨_, rfl, _, rfl, _, _, rfl, rfl, k⟩⟩⟩
    | is =>
      refine ⟨_, rfl, rfl, _, rfl, iteN (show ¬ V.str (sgS .is) = V.str "<" from fun z => absurd (V.str.inj z) (by decide +kernel)) ⟨_, rfl, rfl, _, rfl, iteN (show ¬ V.str (sgS .is) = V.str "<=" from fun z => absurd (V.str.inj z) (by decide +kernel)) ⟨_, rfl, _, rfl, rfl, ?_⟩⟩⟩
      have e : decide (V.int l = V.int r) = decide (l = r) := by
        by_cases h : l = r
        · rw [h]; simp
        · rw [decide_eq_false h, decide_eq_false (fun z => h (V.int.inj z))]
      rw [e]
      exact k
theorem ok_th {f fT fC CD : Addr} {fd dT dC : FuncData} (F : Fun K "test_holds" "test_holds" sTh f fd) (TV : FTv K mg fT dT) (OT : FnOk P w K mg base CX0 1 fT dT ["desk", "term"] (spTv CD)) (CM : FCm K mg fC dC) (OC : FnOk P w K mg base CX0 1 fC dC ["left", "sign", "right"] spCm) (T : Gv mg) : FnOk P w K mg base CX0 2 f fd ["desk", "parts"] (spTh K CD) := by
  refine F.ok scTh (fun vs H Q E h => ?_) (fun cdv A outer s H vs Q E hr h => ?_)
  · obtain ⟨x, dx, L, S, v, ps, rfl, _⟩ := h
    rfl
  · obtain ⟨x, dx, L, S, v, ps, rfl, D, td, few, k⟩ := h
    refine ⟨_, (pss_one (ps_ret (pe_callB (cr_all rfl) (by rfl) T.all (by decide +kernel) (pa_cons (pe_lc (own := [("wanted", 2), ("sign", 3), ("left", 4), ("right", 5)]) (g := (gTup K 4 (gCons (gName 2) (gCons (gName 3) (gCons (gName 4) (gCons (gName 5) gNil)))))) (by rfl) scTh.nd (pi_tup (pv 1)) (blkOk_by (N := NTh) (sc := defScope sTh) (by decide +kernel)) (fun _ _ _ _ _ => (pg_tup rfl (pgs_cons (pg_name (i := 2) scTh.nd rfl (.inl rfl)) (pgs_cons (pg_name (i := 3) scTh.nd rfl (.inl rfl)) (pgs_cons (pg_name (i := 4) scTh.nd rfl (.inl rfl)) (pgs_cons (pg_name (i := 5) scTh.nd rfl (.inl rfl)) pgs_nil)))))) (fun _ _ _ _ _ => pts_nil) (fun _ _ _ _ _ => (pe_cmpR op_eq (pe_call OC hr rfl CM.g CM.u.kp CM.b .nil pass0 (pa_cons (pe_call OT hr rfl TV.g TV.u.kp TV.b .nil pass0 (pa_cons (pv 0) (pa_cons (pv 4) pa_nil))) (pa_cons (pv 3) (pa_cons (pe_call OT hr rfl TV.g TV.u.kp TV.b .nil pass0 (pa_cons (pv 0) (pa_cons (pv 5) pa_nil))) pa_nil)))) (pv 2) (nomark _)))) pa_nil)))), ?_⟩
    obtain ⟨a, xs, rfl, ha, tds⟩ := td.tupl
    have lx : xs.length = ps.length := by rw [tds.len, List.length_map]
    refine ⟨_, rfl, a, rfl, ⟨_, ha⟩, fun E hE => lc_tup (K := K) (a := a) (xs := xs) (fun i G => Same H G ∧ G E = some (.lst (((ps.take i).map fun p => decide (cmpI (tvI S p.l) p.s (tvI S p.r) = p.w)).map V.bl))) ⟨same_new hE, upd_same⟩ (fun i G _ ⟨s, _⟩ => Same.tup s ha) ?_ ?_⟩
    · rintro i y G hi ⟨sG, hG⟩
      obtain ⟨t, ht, tt⟩ := td_get tds hi
      obtain ⟨p, rfl, hp⟩ := part_at tt
      have li := (List.getElem?_eq_some_iff.mp ht).1
      refine ⟨p, _, rfl, Same.tup sG hp, rfl, _, _, rfl, _, _, rfl, _, _, rfl, _, _, rfl, rfl, rfl, ?_⟩
      refine ⟨_, rfl, _, rfl, x, dx, L, S, t.l, rfl, D.same sG, _, rfl, _, rfl, _, rfl, x, dx, L, S, t.r, rfl, D.same sG, _, _, t.s, rfl, _, rfl, rfl, ?_⟩
      refine ⟨_, hG, (by rw [List.length_map, List.length_map, List.length_take, sizeLine_eq]; omega), fun c o e => ?_, ?_⟩
      · rw [upd_ne (fun y => by rw [y, hE] at e; cases e)]; exact sG _ _ e
      · rw [upd_same, take_snoc'' ht, List.map_append, List.map_append]
        show some (HO.lst (_ ++ [V.bl (decide (V.bl _ = V.bl t.w))])) = _
        have e : decide (V.bl (cmpI (tvI S t.l) t.s (tvI S t.r)) = V.bl t.w) = decide (cmpI (tvI S t.l) t.s (tvI S t.r) = t.w) := by
          by_cases h : cmpI (tvI S t.l) t.s (tvI S t.r) = t.w
          · rw [h]; simp
          · rw [decide_eq_false h, decide_eq_false (fun z => h (V.bl.inj z))]
        rw [e]; rfl
    · rintro G ⟨sG, hG⟩
      rw [lx, List.take_length] at hG
      refine ⟨E, _, rfl, SqL.of hG, ?_⟩
      have e : ((ps.map fun p => decide (cmpI (tvI S p.l) p.s (tvI S p.r) = p.w)).all id) = testF S ps := by
        unfold testF
        rw [List.all_map]; rfl
      rw [e]
      exact k G sG
theorem name_in (n : Nm) : inV (.str (nmS n)) (fieldsW.map V.str) = decide (n ∈ fieldsN) := by cases n <;> decide +kernel
theorem ok_sn {f CD pF : Addr} {fd : FuncData} (F : Fun K "set_name" "set_name" sSn f fd) (O : OBd K CD) (gF : mg "FIELDS" = some (.ref pF)) (tF : KTup K pF (fieldsW.map V.str)) : FnOk P w K mg base CX0 1 f fd ["desk", "name", "number"] (spSn CD) := by
  refine F.ok scSn (fun vs H Q E h => ?_) (fun cdv A outer s H vs Q E hr h => ?_)
  · obtain ⟨x, dx, L, S, n, z, rfl, _⟩ := h
    rfl
  · obtain ⟨x, dx, L, S, n, z, rfl, D, k⟩ := h
    have hu := hu_of hr
    refine ⟨_, (pss_join (ps_if (pt_cmpR op_in_seq (pv 1) (pe_glob rfl gF (v := .ref pF) rfl) (by rfl)) (pss_cons (ps_if (pt_not (pt_chain op_le op_le pe_int (pv 2) (pe_fld (pv 0) rfl))) (pss_one (ps_ret pe_bl)) pss_nil)
 (pss_one (ps_fld (pv 0) pe_bl rfl))) pss_nil)
 (pss_cons (ps_dput hu (pe_fld (pv 0) rfl) (pv 1) (pv 2) rfl)
 (pss_one (ps_ret pe_bl)))), ?_⟩
    have small : ∀ g, (namesL g).length < sizeLine := fun g => by show 10 < sizeLine; decide
    refine ⟨fun τ G => τ = [some (.ref x), some (.str (nmS n)), some (.int z)] ∧ ∃ S', Off x L H G ∧ DkAt G x CD dx L S' ∧ setF S n z = (true, { S' with nm := setN S'.nm n z }), ?_, ?_⟩
    · refine ⟨_, rfl, pF, _, rfl, .inr tF.sq, rfl, flat_strs fieldsW, _, rfl, ?_⟩
      rw [name_in]
      by_cases hn : n ∈ fieldsN
      · refine iteY hn ?_
        refine ⟨_, rfl, _, _, rfl, rfl, _, rfl, ?_⟩
        by_cases h0 : 0 ≤ z
        · refine iteY h0 ⟨_, rfl, x, CD, dx, _, .int S.sz, rfl, D.ins, O.cl, O.no "size" (by decide +kernel), rfl, _, _, rfl, rfl, _, rfl, ?_⟩
          by_cases h1 : z ≤ S.sz
          · rw [decide_eq_true h1]
            refine iteF ?_
            refine ⟨_, rfl, x, CD, dx, _, rfl, D.ins, O.cl, O.no "is_changed" (by decide +kernel), (by show 7 < 1000; decide), ?_⟩
            rw [chg_put]
            exact ⟨rfl, { S with ch := true }, Off.updX _, D.setX, by unfold setF; rw [if_pos hn, if_pos ⟨h0, h1⟩]⟩
          · rw [decide_eq_false h1]
            refine iteT ?_
            have e : setF S n z = (false, S) := by unfold setF; rw [if_pos hn, if_neg (fun h => h1 h.2)]
            have k' := k H (Off.refl _ _ _) (by rw [e]; exact D)
            rw [e] at k'
            exact k'
        · refine iteN h0 ?_
          have e : setF S n z = (false, S) := by unfold setF; rw [if_pos hn, if_neg (fun h => h0 h.1)]
          have k' := k H (Off.refl _ _ _) (by rw [e]; exact D)
          rw [e] at k'
          exact ⟨_, rfl, iteT k'⟩
      · exact iteN hn ⟨rfl, S, Off.refl _ _ _, D, by unfold setF; rw [if_neg hn]⟩
    · rintro τ G ⟨rfl, S', oG, D', e⟩
      refine ⟨_, rfl, _, rfl, x, CD, dx, _, _, rfl, D'.ins, O.cl, O.no "names" (by decide +kernel), rfl, _, rfl, L.n, _, rfl, DPut.k (k := Sum.inr (nmS n)) D'.nm (small _), ?_⟩
      rw [names_put]
      have k' := k _ (oG.trans (Off.updN _)) (by rw [e]; exact D'.setN)
      rw [e] at k'
      exact k'
end
end IdL
namespace IdL
open PySem L2 TL
/-! ### steps of a play -/
inductive Mv
  | back | again
  deriving DecidableEq
def mvS : Mv → Str
  | .back => "back"
  | .again => "again"
inductive Fm
  | set (z : Nm) (ts : List (Int × Tv))
  | wrap (z : Nm) (ts : List (Int × Tv))
  | sealed (z y : Nm)
  | write (z : Nm)
  | times (m : Mv) (ts : List (Int × Tv))
  | untl (m : Mv) (z : Nm)
  | iff (ps : List Pt)
  | one (w : Str)
def fmD : Fm → PyData
  | .set z ts => .tuple [.str "set", .str (nmS z), .tuple (ts.map tmF)]
  | .wrap z ts => .tuple [.str "wrap", .str (nmS z), .tuple (ts.map tmF)]
  | .sealed z y => .tuple [.str "sealed", .str (nmS z), .str (nmS y)]
  | .write z => .tuple [.str "write", .str (nmS z)]
  | .times m ts => .tuple [.str (mvS m), .str "times", .tuple (ts.map tmF)]
  | .untl m z => .tuple [.str (mvS m), .str "until", .str (nmS z)]
  | .iff ps => .tuple [.str "if", .tuple (ps.map ptF)]
  | .one w => .tuple [.str w]
theorem at_3 {K : PySem.W.Frag} {H : Hp} {v : V} {w z : Str} {d : PyData} (h : TD K H v (.tuple [.str w, .str z, d])) : ∃ a y, v = .ref a ∧ SqT K H a [.str w, .str z, y] ∧ TD K H y d := by
  cases h with
  | tup q r =>
    cases r with
    | cons r1 r2 =>
      cases r2 with
      | cons r2 r3 =>
        cases r3 with
        | cons r3 r4 =>
          cases r4
          cases r1
          cases r2
          exact ⟨_, _, rfl, q, r3⟩
theorem at_2 {K : PySem.W.Frag} {H : Hp} {v : V} {w : Str} {d : PyData} (h : TD K H v (.tuple [.str w, d])) : ∃ a y, v = .ref a ∧ SqT K H a [.str w, y] ∧ TD K H y d := by
  cases h with
  | tup q r =>
    cases r with
    | cons r1 r2 =>
      cases r2 with
      | cons r2 r3 =>
        cases r3
        cases r1
        exact ⟨_, _, rfl, q, r2⟩
def isP (S : Dk) (i : Int) : Bool := decide (0 ≤ i) && decide (i < S.sz)
def wrapT (S : Dk) (t : Int) : Option Int := if isP S t = true then some t else if isP S (t - S.sz) = true then some (t - S.sz) else if isP S (t + S.sz) = true then some (t + S.sz) else none
def wrapF (S : Dk) (z : Nm) (ts : List (Int × Tv)) : Bool × Dk := match wrapT S (sumF S ts) with
  | none => (false, S)
  | some i => setF S z i
def sealF (S : Dk) (z y : Nm) : Bool × Dk := match valI S.se (S.nm y) with
  | none => (false, S)
  | some l => (true, { S with nm := setN S.nm z l })
def writeF (S : Dk) (z : Nm) : Bool × Dk := if isP S (S.nm z) = true then (true, { S with se := dropI S.se (S.nm z), wr := S.wr ++ [S.nm z], ch := true }) else (false, S)
structure Fit (S : Dk) : Prop where
  s1 : 1 ≤ S.sz
  s2 : S.sz ≤ 1000000
  w : S.wr.length ≤ 1000000
  b : S.bk.length ≤ 1000000
  a : S.ag.length ≤ 1000000
abbrev sPs : Stmt := top 67
abbrev sPw : Stmt := top 68
abbrev sPl : Stmt := top 69
abbrev sPr : Stmt := top 70
theorem scPs : FnScope ["desk", "form"] ["desk", "form"] (defScope sPs) := ⟨rfl, rfl, rfl, by decide +kernel, rfl, by decide +kernel, by decide +kernel⟩
def NPw : List Str := ["desk", "form", "total", "number"]
theorem scPw : FnScope NPw ["desk", "form"] (defScope sPw) := ⟨rfl, rfl, rfl, by decide +kernel, rfl, by decide +kernel, by decide +kernel⟩
theorem scPl : FnScope ["desk", "form", "length"] ["desk", "form"] (defScope sPl) := ⟨rfl, rfl, rfl, by decide +kernel, rfl, by decide +kernel, by decide +kernel⟩
theorem scPr : FnScope ["desk", "form", "place"] ["desk", "form"] (defScope sPr) := ⟨rfl, rfl, rfl, by decide +kernel, rfl, by decide +kernel, by decide +kernel⟩
/-- a step: of a desk and a form -/
def spStp (K : PySem.W.Frag) (CD : Addr) (ok : Fm → Prop) (g : Dk → Fm → Bool × Dk) : Sp := fun vs H Q _ => ∃ (x dx : Addr) (L : DkL) (S : Dk) (v : V) (f : Fm), vs = [.ref x, v] ∧ DkAt H x CD dx L S ∧ TD K H v (fmD f) ∧ ok f ∧ Fit S ∧ StepQ CD x dx L H Q (g S f)
def okSet : Fm → Prop
  | .set _ ts => SumOk ts
  | _ => False
def okWrap : Fm → Prop
  | .wrap _ ts => SumOk ts
  | _ => False
def okSeal : Fm → Prop
  | .sealed _ _ => True
  | _ => False
def okWrite : Fm → Prop
  | .write _ => True
  | _ => False
def fSet (S : Dk) : Fm → Bool × Dk
  | .set z ts => setF S z (sumF S ts)
  | _ => (false, S)
def fWrap (S : Dk) : Fm → Bool × Dk
  | .wrap z ts => wrapF S z ts
  | _ => (false, S)
def fSeal (S : Dk) : Fm → Bool × Dk
  | .sealed z y => sealF S z y
  | _ => (false, S)
def fWrite (S : Dk) : Fm → Bool × Dk
  | .write z => writeF S z
  | _ => (false, S)
theorem drop_none {l : List (Int × Int)} {k : Int} (h : valI l k = none) : dropI l k = l := by
  unfold valI at h
  have h := Option.map_eq_none_iff.mp h
  unfold dropI
  refine List.filter_eq_self.mpr fun p hp => ?_
  have := List.find?_eq_none.mp h p hp
  simpa using this
section
variable {P : Program} {w : World} {K : PySem.W.Frag} {mg : Str → Option Value} {base : Heap}
theorem StepQ.same {CD x dx : Addr} {L : DkL} {H H1 : Hp} {Q : VK} {r : Bool × Dk} (k : StepQ CD x dx L H Q r) (s : Same H H1) : StepQ CD x dx L H1 Q r := fun H' o d => k H' ((Off.of s).trans o) d
theorem ok_ps {f fN fV CD : Addr} {fd dN dV : FuncData} (F : Fun K "play_set" "play_set" sPs f fd) (SN : FSn K mg fN dN) (OSN : FnOk P w K mg base CX0 1 fN dN ["desk", "name", "number"] (spSn CD)) (SV : FSv K mg fV dV) (OSV : FnOk P w K mg base CX0 2 fV dV ["desk", "terms"] (spSv K CD)) : FnOk P w K mg base CX0 3 f fd ["desk", "form"] (spStp K CD okSet fSet) := by
  refine F.ok scPs (fun vs H Q E h => ?_) (fun cdv A outer s H vs Q E hr h => ?_)
  · obtain ⟨x, dx, L, S, v, f, rfl, _⟩ := h
    rfl
  · obtain ⟨x, dx, L, S, v, f, rfl, D, td, ok, fit, k⟩ := h
    have hr1 := hr.mono (show 1 ≤ 2 by decide)
    refine ⟨_, (pss_one (ps_ret (pe_call OSN hr1 rfl SN.g SN.u.kp SN.b .nil pass0 (pa_cons (pv 0) (pa_cons (pe_ix ix_tup (pv 1) pe_int (fun _ _ => rfl)) (pa_cons (pe_call OSV hr rfl SV.g SV.u.kp SV.b .nil pass0 (pa_cons (pv 0) (pa_cons (pe_ix ix_tup (pv 1) pe_int (fun _ _ => rfl)) pa_nil))) pa_nil)))))), ?_⟩
    cases f with
    | set z ts =>
      obtain ⟨a, y, rfl, ha, ty⟩ := at_3 td
      exact ⟨_, rfl, _, rfl, a, _, 1, _, rfl, rfl, ha, atI_nat (j := 1) rfl, _, rfl, _, rfl, a, _, 2, _, rfl, rfl, ha, atI_nat (j := 2) rfl, x, dx, L, S, y, ts, rfl, D, ty, ok, fun H1 z1 => ⟨x, dx, L, S, z, sumF S ts, rfl, D.same z1, k.same z1⟩⟩
    | _ => exact ok.elim
theorem ok_pw {f fN fV fI CD : Addr} {fd dN dV dI : FuncData} (F : Fun K "play_wrap" "play_wrap" sPw f fd) (O : OBd K CD) (SN : FSn K mg fN dN) (OSN : FnOk P w K mg base CX0 1 fN dN ["desk", "name", "number"] (spSn CD)) (SV : FSv K mg fV dV) (OSV : FnOk P w K mg base CX0 2 fV dV ["desk", "terms"] (spSv K CD)) (IP : FIp K mg fI dI) (OIP : FnOk P w K mg base CX0 1 fI dI ["desk", "number"] (spIp CD)) : FnOk P w K mg base CX0 3 f fd ["desk", "form"] (spStp K CD okWrap fWrap) := by
  refine F.ok scPw (fun vs H Q E h => ?_) (fun cdv A outer s H vs Q E hr h => ?_)
  · obtain ⟨x, dx, L, S, v, f, rfl, _⟩ := h
    rfl
  · obtain ⟨x, dx, L, S, v, f, rfl, D, td, ok, fit, k⟩ := h
    have hr1 := hr.mono (show 1 ≤ 2 by decide)
    refine ⟨_, (pss_cons (ps_set (i := 2) scPw.nd rfl (.inl rfl) (pe_call OSV hr rfl SV.g SV.u.kp SV.b .nil pass0 (pa_cons (pv 0) (pa_cons (pe_ix ix_tup (pv 1) pe_int (fun _ _ => rfl)) pa_nil))))
 (pss_cons (ps_for PassesOwn.never rfl (pi_tup (pe_tup (pa_cons (pv 2) (pa_cons (pe_op op_sub (pv 2) (pe_fld (pv 0) rfl)) (pa_cons (pe_op op_add (pv 2) (pe_fld (pv 0) rfl)) pa_nil))))) (pg_name (i := 3) scPw.nd rfl (.inl rfl)) (pss_one (ps_if (pt_val (pe_call OIP hr1 rfl IP.g IP.u.kp IP.b .nil pass0 (pa_cons (pv 0) (pa_cons (pv 3) pa_nil)))) (pss_one (ps_ret (pe_call OSN hr1 rfl SN.g SN.u.kp SN.b .nil pass0 (pa_cons (pv 0) (pa_cons (pe_ix ix_tup (pv 1) pe_int (fun _ _ => rfl)) (pa_cons (pv 3) pa_nil)))))) pss_nil)))
 (pss_one (ps_ret pe_bl)))), ?_⟩
    cases f with
    | wrap z ts =>
      obtain ⟨a, y, rfl, ha, ty⟩ := at_3 td
      refine ⟨_, rfl, _, rfl, a, _, 2, _, rfl, rfl, ha, atI_nat (j := 2) rfl, x, dx, L, S, y, ts, rfl, D, ty, ok, fun H1 z1 => ?_⟩
      have k : StepQ CD x dx L H Q (wrapF S z ts) := k
      unfold wrapF at k
      have k := k.same z1
      have D := D.same z1
      have ha := Same.tup z1 ha
      generalize sumF S ts = t at *
      refine ⟨_, rfl, _, rfl, _, rfl, x, CD, dx, _, .int S.sz, rfl, D.ins, O.cl, O.no "size" (by decide +kernel), rfl, _, _, rfl, rfl, _, rfl, _, rfl, x, CD, dx, _, .int S.sz, rfl, D.ins, O.cl, O.no "size" (by decide +kernel), rfl, _, _, rfl, rfl, (by show 3 ≤ sizeLine; decide), fun tt htt => ?_⟩
      have z2 : Same H1 (upd H1 tt (.tup [.int t, .int (t - S.sz), .int (t + S.sz)])) := same_new htt
      have ht2 : upd H1 tt (.tup [.int t, .int (t - S.sz), .int (t + S.sz)]) tt = some (.tup [.int t, .int (t - S.sz), .int (t + S.sz)]) := upd_same
      obtain ⟨H2, eH⟩ : ∃ H2, upd H1 tt (.tup [.int t, .int (t - S.sz), .int (t + S.sz)]) = H2 := ⟨_, rfl⟩
      have ht0 := ht2
      rw [eH] at z2 ht2
      have k := k.same z2
      have D := D.same z2
      have ha := Same.tup z2 ha
      refine ⟨tt, rfl, ⟨_, SqT.of ht0⟩, for_tup (K := K) (a := tt) (xs := [.int t, .int (t - S.sz), .int (t + S.sz)]) (fun i σ G => ∃ v3 : Option V, σ = [some (.ref x), some (.ref a), some (.int t), v3] ∧ G = H2 ∧ ∀ j, j < i → isP S ([t, t - S.sz, t + S.sz].getD j 0) = false)
        ⟨none, rfl, eH, fun j hj => absurd hj (Nat.not_lt_zero j)⟩ (fun i σ G _ ⟨_, _, e, _⟩ => by rw [e]; exact SqT.of ht2) ?_ ?_⟩
      · rintro i y2 σ G hi ⟨v3, rfl, rfl, no⟩
        obtain ⟨n, rfl, en, ew⟩ : ∃ n : Int, y2 = .int n ∧ n = [t, t - S.sz, t + S.sz].getD i 0 ∧ (isP S n = true → wrapT S t = some n) := by
          match i, hi with
          | 0, hi => cases hi; exact ⟨t, rfl, rfl, fun h => by unfold wrapT; rw [if_pos h]⟩
          | 1, hi =>
            cases hi
            refine ⟨_, rfl, rfl, fun h => ?_⟩
            have n0 : isP S t = false := no 0 (by omega)
            unfold wrapT; rw [if_neg (by rw [n0]; exact Bool.false_ne_true), if_pos h]
          | 2, hi =>
            cases hi
            refine ⟨_, rfl, rfl, fun h => ?_⟩
            have n0 : isP S t = false := no 0 (by omega)
            have n1 : isP S (t - S.sz) = false := no 1 (by omega)
            unfold wrapT; rw [if_neg (by rw [n0]; exact Bool.false_ne_true), if_neg (by rw [n1]; exact Bool.false_ne_true), if_pos h]
          | i + 3, hi => cases hi
        refine ⟨_, rfl, _, rfl, x, dx, L, S, n, rfl, D, _, rfl, ?_⟩
        cases hp : isP S n with
        | true =>
          rw [ew hp] at k
          have hp' : (decide (0 ≤ n) && decide (n < S.sz)) = true := hp
          rw [hp']
          exact iteT ⟨_, rfl, _, rfl, a, _, 1, _, rfl, rfl, ha, atI_nat (j := 1) rfl, _, rfl, x, dx, L, S, z, n, rfl, D, k⟩
        | false =>
          have hp' : (decide (0 ≤ n) && decide (n < S.sz)) = false := hp
          rw [hp']
          refine iteF ⟨_, rfl, rfl, fun j hj => ?_⟩
          by_cases hji : j = i
          · rw [hji, ← en]; exact hp
          · exact no j (by omega)
      · rintro σ G ⟨v3, rfl, rfl, no⟩
        have e : wrapT S t = none := by
          unfold wrapT
          have n0 : isP S t = false := no 0 (by show 0 < 3; omega)
          have n1 : isP S (t - S.sz) = false := no 1 (by show 1 < 3; omega)
          have n2 : isP S (t + S.sz) = false := no 2 (by show 2 < 3; omega)
          rw [if_neg (by rw [n0]; exact Bool.false_ne_true), if_neg (by rw [n1]; exact Bool.false_ne_true), if_neg (by rw [n2]; exact Bool.false_ne_true)]
        rw [e] at k
        exact k _ (Off.refl _ _ _) D
    | _ => exact ok.elim
theorem ok_pl {f CD : Addr} {fd : FuncData} (F : Fun K "play_sealed" "play_sealed" sPl f fd) (O : OBd K CD) : FnOk P w K mg base CX0 1 f fd ["desk", "form"] (spStp K CD okSeal fSeal) := by
  refine F.ok scPl (fun vs H Q E h => ?_) (fun cdv A outer s H vs Q E hr h => ?_)
  · obtain ⟨x, dx, L, S, v, f, rfl, _⟩ := h
    rfl
  · obtain ⟨x, dx, L, S, v, f, rfl, D, td, ok, fit, k⟩ := h
    have hu := hu_of hr
    refine ⟨_, (pss_cons (ps_set (i := 2) scPl.nd rfl (.inl rfl) (pe_dget1 hu (pe_fld (pv 0) rfl) (pe_dget hu (pe_fld (pv 0) rfl) (pe_ix ix_tup (pv 1) pe_int (fun _ _ => rfl)) (fun _ _ => rfl)) ⟨rfl, rfl, rfl, rfl⟩))
 (pss_cons (ps_if (pt_cmpR op_isN (pv 2) pe_non (nomark _)) (pss_one (ps_ret pe_bl)) pss_nil)
 (pss_cons (ps_dput hu (pe_fld (pv 0) rfl) (pe_ix ix_tup (pv 1) pe_int (fun _ _ => rfl)) (pv 2) rfl)
 (pss_one (ps_ret pe_bl))))), ?_⟩
    cases f with
    | sealed z y =>
      obtain ⟨a, y', rfl, ha, ty⟩ := at_3 td
      cases ty
      have k : StepQ CD x dx L H Q (sealF S z y) := k
      unfold sealF at k
      refine ⟨_, rfl, x, CD, dx, _, _, rfl, D.ins, O.cl, O.no "seals" (by decide +kernel), rfl, L.s, rfl, .inl ⟨_, .inl D.se⟩, _, rfl, x, CD, dx, _, _, rfl, D.ins, O.cl, O.no "names" (by decide +kernel), rfl, _, rfl, a, _, 2, _, rfl, rfl, ha, atI_nat (j := 2) rfl, L.n, _, rfl, get_nm D y, _, get_se D _, ?_⟩
      cases e : valI S.se (S.nm y) with
      | none =>
        rw [e] at k
        exact ⟨_, rfl, rfl, _, rfl, iteT (k _ (Off.refl _ _ _) D)⟩
      | some l =>
        rw [e] at k
        refine ⟨_, rfl, rfl, _, rfl, iteF ?_⟩
        refine ⟨_, rfl, _, rfl, x, CD, dx, _, _, rfl, D.ins, O.cl, O.no "names" (by decide +kernel), rfl, _, rfl, a, _, 1, _, rfl, rfl, ha, atI_nat (j := 1) rfl, L.n, _, rfl, DPut.k (k := Sum.inr (nmS z)) D.nm (by show 10 < sizeLine; decide), ?_⟩
        show Q (.bl true) (upd H L.n (.dK (putK (namesL S.nm) (.inr (nmS z)) (.int l))))
        rw [names_put]
        exact k _ (Off.updN _) D.setN
    | _ => exact ok.elim
theorem ok_pr {f fI CD : Addr} {fd dI : FuncData} (F : Fun K "play_write" "play_write" sPr f fd) (O : OBd K CD) (IP : FIp K mg fI dI) (OIP : FnOk P w K mg base CX0 1 fI dI ["desk", "number"] (spIp CD)) : FnOk P w K mg base CX0 2 f fd ["desk", "form"] (spStp K CD okWrite fWrite) := by
  refine F.ok scPr (fun vs H Q E h => ?_) (fun cdv A outer s H vs Q E hr h => ?_)
  · obtain ⟨x, dx, L, S, v, f, rfl, _⟩ := h
    rfl
  · obtain ⟨x, dx, L, S, v, f, rfl, D, td, ok, fit, k⟩ := h
    have hu := hu_of hr
    refine ⟨_, (pss_cons (ps_set (i := 2) scPr.nd rfl (.inl rfl) (pe_dget hu (pe_fld (pv 0) rfl) (pe_ix ix_tup (pv 1) pe_int (fun _ _ => rfl)) (fun _ _ => rfl)))
 (pss_cons (ps_if (pt_not (pt_val (pe_call OIP hr rfl IP.g IP.u.kp IP.b .nil pass0 (pa_cons (pv 0) (pa_cons (pv 2) pa_nil))))) (pss_one (ps_ret pe_bl)) pss_nil)
 (pss_cons (ps_expr (pe_dpop2 (pe_fld (pv 0) rfl) (pv 2) pe_non ⟨rfl, rfl, rfl, rfl⟩))
 (pss_cons (ps_expr (pe_bm PySem.F.plainAttrs_list PySem.F.slot_list_append PySem.F.type_list_append mt_append (pe_fld (pv 0) rfl) (pa_cons (pv 2) pa_nil)))
 (pss_cons (ps_fld (pv 0) pe_bl rfl)
 (pss_one (ps_ret pe_bl))))))), ?_⟩
    cases f with
    | write z =>
      obtain ⟨a, y', rfl, ha, ty⟩ := at_2 td
      cases ty
      have k : StepQ CD x dx L H Q (writeF S z) := k
      unfold writeF at k
      refine ⟨_, rfl, x, CD, dx, _, _, rfl, D.ins, O.cl, O.no "names" (by decide +kernel), rfl, _, rfl, a, _, 1, _, rfl, rfl, ha, atI_nat (j := 1) rfl, L.n, _, rfl, get_nm D z, ?_⟩
      refine ⟨_, rfl, _, rfl, x, dx, L, S, S.nm z, rfl, D, _, rfl, ?_⟩
      have e : (decide (0 ≤ S.nm z) && decide (S.nm z < S.sz)) = isP S (S.nm z) := rfl
      rw [e]
      cases hp : isP S (S.nm z) with
      | false =>
        rw [if_neg (by rw [hp]; exact Bool.false_ne_true)] at k
        exact iteT (k _ (Off.refl _ _ _) D)
      | true =>
        rw [if_pos hp] at k
        refine iteF ?_
        refine ⟨_, rfl, x, CD, dx, _, _, rfl, D.ins, O.cl, O.no "seals" (by decide +kernel), rfl, L.s, rfl, .inl ⟨_, .inl D.se⟩, _, rfl, _, .inl (S.nm z), D.se, rfl, fun vv hv => ?_, fun hv => ?_⟩
        · have D' : DkAt (upd H L.s (.dK (dropK (sealK S.se) (.inl (S.nm z))))) x CD dx L { S with se := dropI S.se (S.nm z) } := by rw [drop_seal]; exact D.setS
          refine ⟨_, rfl, x, CD, dx, _, _, rfl, D'.ins, O.cl, O.no "written" (by decide +kernel), rfl, .inl ⟨rfl, _, SqL.of D'.wr⟩, _, rfl, L.w, _, _, rfl, rfl, D'.wr, (by rw [List.length_map, sizeLine_eq]; have := fit.w; show S.wr.length < _; omega), ?_⟩
          have D2 := D'.setW (g := S.wr ++ [S.nm z])
          rw [List.map_append] at D2
          refine ⟨_, rfl, x, CD, dx, _, rfl, D2.ins, O.cl, O.no "is_changed" (by decide +kernel), (by show 7 < 1000; decide), ?_⟩
          rw [chg_put]
          exact k _ (((Off.updS _).trans (Off.updW _)).trans (Off.updX _)) D2.setX
        · have hd : dropI S.se (S.nm z) = S.se := by
            rw [val_seal] at hv
            exact drop_none (Option.map_eq_none_iff.mp hv)
          rw [hd] at k
          have D2 := D.setW (g := S.wr ++ [S.nm z])
          rw [List.map_append] at D2
          refine ⟨_, rfl, x, CD, dx, _, _, rfl, D.ins, O.cl, O.no "written" (by decide +kernel), rfl, .inl ⟨rfl, _, SqL.of D.wr⟩, _, rfl, L.w, _, _, rfl, rfl, D.wr, (by rw [List.length_map, sizeLine_eq]; have := fit.w; omega), ?_⟩
          refine ⟨_, rfl, x, CD, dx, _, rfl, D2.ins, O.cl, O.no "is_changed" (by decide +kernel), (by show 7 < 1000; decide), ?_⟩
          rw [chg_put]
          exact k _ ((Off.updW _).trans (Off.updX _)) D2.setX
    | _ => exact ok.elim
end
end IdL
namespace IdL
open PySem L2 TL
/-! ### how often a move is made; moves -/
def timesA (S : Dk) (ts : List (Int × Tv)) : Option Int := if isP S (S.nm .next) = true then (if 0 ≤ sumF S ts ∧ sumF S ts ≤ S.sz then some (sumF S ts) else none) else none
def untlA (S : Dk) (m : Mv) (z : Nm) : Option Int := if isP S (S.nm .next) = true then (if isP S (S.nm z) = true then some ((if m = .back then S.nm .next - S.nm z else S.nm z - S.nm .next) % S.sz) else none) else none
def timesF (S : Dk) : Fm → Option Int
  | .times _ ts => timesA S ts
  | .untl m z => untlA S m z
  | _ => none
def okMv (m : Mv) : Fm → Prop
  | .times m' ts => m' = m ∧ SumOk ts
  | .untl m' _ => m' = m
  | _ => False
def optI : Option Int → V
  | none => .non
  | some i => .int i
def iter (g : Dk → Dk) : Nat → Dk → Dk
  | 0, S => S
  | n + 1, S => g (iter g n S)
def back1 (S : Dk) : Dk := { S with nm := setN S.nm .next ((S.nm .next - 1) % S.sz), bk := S.bk ++ [(S.nm .next - 1) % S.sz] }
def again1 (S : Dk) : Dk := { S with nm := setN S.nm .next ((S.nm .next + 1) % S.sz), ag := S.ag ++ [S.nm .next] }
def fBack (S : Dk) (f : Fm) : Bool × Dk := match timesF S f with
  | none => (false, S)
  | some t => (true, { iter back1 t.toNat S with ch := true })
def fAgain (S : Dk) (f : Fm) : Bool × Dk := match timesF S f with
  | none => (false, S)
  | some t => (true, { iter again1 t.toNat S with ch := true })
theorem times_le {S : Dk} {f : Fm} {t : Int} (h1 : 1 ≤ S.sz) (h : timesF S f = some t) : 0 ≤ t ∧ t ≤ S.sz := by
  cases f with
  | times m ts =>
    have h : timesA S ts = some t := h
    unfold timesA at h
    by_cases c1 : isP S (S.nm .next) = true
    · rw [if_pos c1] at h
      by_cases c2 : 0 ≤ sumF S ts ∧ sumF S ts ≤ S.sz
      · rw [if_pos c2] at h
        cases h
        exact c2
      · rw [if_neg c2] at h
        cases h
    · rw [if_neg c1] at h
      cases h
  | untl m z =>
    have h : untlA S m z = some t := h
    unfold untlA at h
    by_cases c1 : isP S (S.nm .next) = true
    · rw [if_pos c1] at h
      by_cases c2 : isP S (S.nm z) = true
      · rw [if_pos c2] at h
        cases h
        exact ⟨Int.emod_nonneg _ (by omega), Int.le_of_lt (Int.emod_lt_of_pos _ (by omega))⟩
      · rw [if_neg c2] at h
        cases h
    · rw [if_neg c1] at h
      cases h
  | _ => cases h
theorem iter_sz (g : Dk → Dk) (hg : ∀ S, (g S).sz = S.sz) (S : Dk) : ∀ n, (iter g n S).sz = S.sz
  | 0 => rfl
  | n + 1 => by show (g (iter g n S)).sz = _; rw [hg, iter_sz g hg S n]
theorem back_len (S : Dk) : ∀ n, (iter back1 n S).bk.length = S.bk.length + n
  | 0 => rfl
  | n + 1 => by
    show ((iter back1 n S).bk ++ [_]).length = _
    rw [List.length_append, back_len S n]; show _ + 1 = _; omega
theorem again_len (S : Dk) : ∀ n, (iter again1 n S).ag.length = S.ag.length + n
  | 0 => rfl
  | n + 1 => by
    show ((iter again1 n S).ag ++ [_]).length = _
    rw [List.length_append, again_len S n]; show _ + 1 = _; omega
abbrev sTo : Stmt := top 71
abbrev sPk : Stmt := top 72
abbrev sPa : Stmt := top 73
theorem scTo : FnScope ["desk", "form", "here", "times", "there"] ["desk", "form"] (defScope sTo) := ⟨rfl, rfl, rfl, by decide +kernel, rfl, by decide +kernel, by decide +kernel⟩
def NPk : List Str := ["desk", "form", "times", "_"]
theorem scPk : FnScope NPk ["desk", "form"] (defScope sPk) := ⟨rfl, rfl, rfl, by decide +kernel, rfl, by decide +kernel, by decide +kernel⟩
theorem scPa : FnScope NPk ["desk", "form"] (defScope sPa) := ⟨rfl, rfl, rfl, by decide +kernel, rfl, by decide +kernel, by decide +kernel⟩
structure FTo (K : PySem.W.Frag) (mg : Str → Option Value) (f : Addr) (d : FuncData) : Prop where
  u : Fun K "times_of" "times_of" sTo f d
  b : Binds K d ["desk", "form"] []
  g : mg "times_of" = some (.ref f)
def spTo (K : PySem.W.Frag) (CD : Addr) (m : Mv) : Sp := fun vs H Q _ => ∃ (x dx : Addr) (L : DkL) (S : Dk) (v : V) (f : Fm), vs = [.ref x, v] ∧ DkAt H x CD dx L S ∧ TD K H v (fmD f) ∧ okMv m f ∧ Fit S ∧ ∀ H', Same H H' → Q (optI (timesF S f)) H'
theorem is_back (m : Mv) : decide (V.str (mvS m) = V.str "back") = decide (m = .back) := by cases m <;> decide +kernel
section
variable {P : Program} {w : World} {K : PySem.W.Frag} {mg : Str → Option Value} {base : Heap}
theorem ok_to {f fV fI CD : Addr} {fd dV dI : FuncData} (m : Mv) (F : Fun K "times_of" "times_of" sTo f fd) (O : OBd K CD) (SV : FSv K mg fV dV) (OSV : FnOk P w K mg base CX0 2 fV dV ["desk", "terms"] (spSv K CD)) (IP : FIp K mg fI dI) (OIP : FnOk P w K mg base CX0 1 fI dI ["desk", "number"] (spIp CD)) : FnOk P w K mg base CX0 3 f fd ["desk", "form"] (spTo K CD m) := by
  refine F.ok scTo (fun vs H Q E h => ?_) (fun cdv A outer s H vs Q E hr h => ?_)
  · obtain ⟨x, dx, L, S, v, f, rfl, _⟩ := h
    rfl
  · obtain ⟨x, dx, L, S, v, f, rfl, D, td, ok, fit, k⟩ := h
    have hu := hu_of hr
    have hr1 := hr.mono (show 1 ≤ 2 by decide)
    refine ⟨_, (pss_cons (ps_set (i := 2) scTo.nd rfl (.inl rfl) (pe_dget hu (pe_fld (pv 0) rfl) pe_str (fun _ _ => rfl)))
 (pss_cons (ps_if (pt_not (pt_val (pe_call OIP hr1 rfl IP.g IP.u.kp IP.b .nil pass0 (pa_cons (pv 0) (pa_cons (pv 2) pa_nil))))) (pss_one (ps_ret pe_non)) pss_nil)
 (pss_cons (ps_if (pt_cmpR op_eq (pe_ix ix_tup (pv 1) pe_int (fun _ _ => rfl)) pe_str (nomark _)) (pss_cons (ps_set (i := 3) scTo.nd rfl (.inl rfl) (pe_call OSV hr rfl SV.g SV.u.kp SV.b .nil pass0 (pa_cons (pv 0) (pa_cons (pe_ix ix_tup (pv 1) pe_int (fun _ _ => rfl)) pa_nil))))
 (pss_one (ps_ret (pe_cut (pe_ifExp (pt_chain op_le op_le pe_int (pv 3) (pe_fld (pv 0) rfl)) (pv 3) pe_non))))) pss_nil)
 (pss_cons (ps_set (i := 4) scTo.nd rfl (.inl rfl) (pe_dget hu (pe_fld (pv 0) rfl) (pe_ix ix_tup (pv 1) pe_int (fun _ _ => rfl)) (fun _ _ => rfl)))
 (pss_cons (ps_if (pt_not (pt_val (pe_call OIP hr1 rfl IP.g IP.u.kp IP.b .nil pass0 (pa_cons (pv 0) (pa_cons (pv 4) pa_nil))))) (pss_one (ps_ret pe_non)) pss_nil)
 (pss_one (ps_ret (pe_op op_modN (pe_cut (pe_ifExp (pt_cmpR op_eq (pe_ix ix_tup (pv 1) pe_int (fun _ _ => rfl)) pe_str (nomark _)) (pe_op op_sub (pv 2) (pv 4)) (pe_op op_sub (pv 4) (pv 2)))) (pe_fld (pv 0) rfl))))))))), ?_⟩
    refine ⟨_, rfl, x, CD, dx, _, _, rfl, D.ins, O.cl, O.no "names" (by decide +kernel), rfl, L.n, _, rfl, get_nm D .next, ?_⟩
    refine ⟨_, rfl, _, rfl, x, dx, L, S, S.nm .next, rfl, D, _, rfl, ?_⟩
    have e : (decide (0 ≤ S.nm .next) && decide (S.nm .next < S.sz)) = isP S (S.nm .next) := rfl
    rw [e]
    cases f with
    | times m' ts =>
      obtain ⟨rfl, so⟩ := ok
      obtain ⟨a, y, rfl, ha, ty⟩ := at_3 td
      have k : ∀ H', Same H H' → Q (optI (timesA S ts)) H' := k
      unfold timesA at k
      cases hp : isP S (S.nm .next) with
      | false =>
        rw [if_neg (by rw [hp]; exact Bool.false_ne_true)] at k
        exact iteT (k H (Same.refl H))
      | true =>
        rw [if_pos hp] at k
        refine iteF ⟨_, rfl, a, _, 1, _, rfl, rfl, ha, atI_nat (j := 1) rfl, rfl, _, rfl, iteY (show V.str "times" = V.str "times" from rfl) ?_⟩
        refine ⟨_, rfl, _, rfl, a, _, 2, _, rfl, rfl, ha, atI_nat (j := 2) rfl, x, dx, L, S, y, ts, rfl, D, ty, so, fun H1 z1 => ?_⟩
        have D1 := D.same z1
        refine ⟨fun v G => v = optI (if 0 ≤ sumF S ts ∧ sumF S ts ≤ S.sz then some (sumF S ts) else none) ∧ G = H1, ?_, ?_⟩
        · refine ⟨_, rfl, _, _, rfl, rfl, _, rfl, ?_⟩
          by_cases h0 : 0 ≤ sumF S ts
          · refine iteY h0 ⟨_, rfl, x, CD, dx, _, .int S.sz, rfl, D1.ins, O.cl, O.no "size" (by decide +kernel), rfl, _, _, rfl, rfl, _, rfl, ?_⟩
            by_cases h1 : sumF S ts ≤ S.sz
            · exact iteY h1 ⟨_, rfl, by rw [if_pos ⟨h0, h1⟩]; rfl, rfl⟩
            · exact iteN h1 ⟨by rw [if_neg (fun h => h1 h.2)]; rfl, rfl⟩
          · exact iteN h0 ⟨_, rfl, iteF ⟨by rw [if_neg (fun h => h0 h.1)]; rfl, rfl⟩⟩
        · rintro v G ⟨rfl, rfl⟩
          exact k _ z1
    | untl m' z =>
      cases ok
      obtain ⟨a, y, rfl, ha, ty⟩ := at_3 td
      cases ty
      have k : ∀ H', Same H H' → Q (optI (untlA S m z)) H' := k
      unfold untlA at k
      cases hp : isP S (S.nm .next) with
      | false =>
        rw [if_neg (by rw [hp]; exact Bool.false_ne_true)] at k
        exact iteT (k H (Same.refl H))
      | true =>
        rw [if_pos hp] at k
        refine iteF ⟨_, rfl, a, _, 1, _, rfl, rfl, ha, atI_nat (j := 1) rfl, rfl, _, rfl, iteN (show ¬ V.str "until" = V.str "times" from fun z => absurd (V.str.inj z) (by decide +kernel)) ?_⟩
        refine ⟨_, rfl, x, CD, dx, _, _, rfl, D.ins, O.cl, O.no "names" (by decide +kernel), rfl, _, rfl, a, _, 2, _, rfl, rfl, ha, atI_nat (j := 2) rfl, L.n, _, rfl, get_nm D z, ?_⟩
        refine ⟨_, rfl, _, rfl, x, dx, L, S, S.nm z, rfl, D, _, rfl, ?_⟩
        have e2 : (decide (0 ≤ S.nm z) && decide (S.nm z < S.sz)) = isP S (S.nm z) := rfl
        rw [e2]
        cases hq : isP S (S.nm z) with
        | false =>
          rw [if_neg (by rw [hq]; exact Bool.false_ne_true)] at k
          exact iteT (k H (Same.refl H))
        | true =>
          rw [if_pos hq] at k
          refine iteF ?_
          refine ⟨fun v G => v = .int (if m = .back then S.nm .next - S.nm z else S.nm z - S.nm .next) ∧ G = H, ?_, ?_⟩
          · refine ⟨_, rfl, a, _, 0, _, rfl, rfl, ha, atI_nat (j := 0) rfl, rfl, _, rfl, ?_⟩
            show if decide (V.str (mvS m) = V.str "back") = true then _ else _
            rw [is_back]
            by_cases hm : m = .back
            · exact iteY hm ⟨_, rfl, _, rfl, _, _, rfl, rfl, by rw [if_pos hm], rfl⟩
            · exact iteN hm ⟨_, rfl, _, rfl, _, _, rfl, rfl, by rw [if_neg hm], rfl⟩
          · rintro v G ⟨rfl, rfl⟩
            have s1 := fit.s1
            refine ⟨_, rfl, x, CD, dx, _, .int S.sz, rfl, D.ins, O.cl, O.no "size" (by decide +kernel), rfl, _, _, rfl, rfl, (by show S.sz ≠ 0; omega), ?_⟩
            show Q (.int (Int.fmod _ S.sz)) G
            rw [fm s1]
            exact k G (Same.refl G)
    | _ => exact ok.elim
theorem ok_pk {f fT CD : Addr} {fd dT : FuncData} (F : Fun K "play_back" "play_back" sPk f fd) (O : OBd K CD) (TO : FTo K mg fT dT) (OTO : FnOk P w K mg base CX0 3 fT dT ["desk", "form"] (spTo K CD .back)) (T : Gv mg) : FnOk P w K mg base CX0 4 f fd ["desk", "form"] (spStp K CD (okMv .back) fBack) := by
  refine F.ok scPk (fun vs H Q E h => ?_) (fun cdv A outer s H vs Q E hr h => ?_)
  · obtain ⟨x, dx, L, S, v, f, rfl, _⟩ := h
    rfl
  · obtain ⟨x, dx, L, S, v, f, rfl, D, td, ok, fit, k⟩ := h
    have hu := hu_of hr
    refine ⟨_, (pss_cons (ps_set (i := 2) scPk.nd rfl (.inl rfl) (pe_call OTO hr rfl TO.g TO.u.kp TO.b .nil pass0 (pa_cons (pv 0) (pa_cons (pv 1) pa_nil))))
 (pss_cons (ps_if (pt_cmpR op_isN (pv 2) pe_non (nomark _)) (pss_one (ps_ret pe_bl)) pss_nil)
 (pss_cons (ps_for PassesOwn.never rfl (pi_range1 (by rfl) T.range (pa_cons (pv 2) pa_nil)) (pg_name (i := 3) scPk.nd rfl (.inl rfl)) (pss_cons (ps_dput hu (pe_fld (pv 0) rfl) pe_str (pe_op op_modN (pe_op op_sub (pe_dget hu (pe_fld (pv 0) rfl) pe_str (fun _ _ => rfl)) pe_int) (pe_fld (pv 0) rfl)) rfl)
 (pss_one (ps_expr (pe_bm PySem.F.plainAttrs_list PySem.F.slot_list_append PySem.F.type_list_append mt_append (pe_fld (pv 0) rfl) (pa_cons (pe_dget hu (pe_fld (pv 0) rfl) pe_str (fun _ _ => rfl)) pa_nil))))))
 (pss_cons (ps_fld (pv 0) pe_bl rfl)
 (pss_one (ps_ret pe_bl)))))), ?_⟩
    refine ⟨_, rfl, _, rfl, x, dx, L, S, v, f, rfl, D, td, ok, fit, fun H1 z1 => ?_⟩
    have k := k.same z1
    have D := D.same z1
    unfold fBack at k
    cases e : timesF S f with
    | none =>
      rw [e] at k
      exact ⟨_, rfl, rfl, _, rfl, iteT (k _ (Off.refl _ _ _) D)⟩
    | some t =>
      rw [e] at k
      obtain ⟨t0, t1⟩ := times_le fit.s1 e
      have b1 := fit.s1
      have b2 := fit.s2
      have b3 := fit.b
      refine ⟨_, rfl, rfl, _, rfl, iteF ?_⟩
      refine ⟨_, rfl, t, rfl, by omega, by omega, for_range (lo := 0) (n := t.toNat) (fun i σ G => ∃ v3 : Option V, σ = [some (.ref x), some v, some (.int t), v3] ∧ Off x L H1 G ∧ DkAt G x CD dx L (iter back1 i S)) ⟨none, rfl, Off.refl _ _ _, D⟩ ?_ ?_⟩
      · rintro i σ G hi ⟨v3, rfl, oG, DG⟩
        have sz := iter_sz back1 (fun _ => rfl) S i
        have bl := back_len S i
        have eI : iter back1 (i + 1) S = back1 (iter back1 i S) := rfl
        rw [eI]
        generalize iter back1 i S = Si at *
        have hz : Si.sz ≠ 0 := by omega
        have eP : putK (namesL Si.nm) (.inr (nmS .next) : Key) (.int ((Si.nm .next - 1).fmod Si.sz)) = namesL (setN Si.nm .next ((Si.nm .next - 1) % Si.sz)) := by rw [fm (by omega)]; exact names_put _ _ _
        refine ⟨_, rfl, x, CD, dx, _, _, rfl, DG.ins, O.cl, O.no "names" (by decide +kernel), rfl, L.n, _, rfl, get_nm DG .next, _, _, rfl, rfl, _, rfl, x, CD, dx, _, .int Si.sz, rfl, DG.ins, O.cl, O.no "size" (by decide +kernel), rfl, _, _, rfl, rfl, hz, ?_⟩
        refine ⟨_, rfl, x, CD, dx, _, _, rfl, DG.ins, O.cl, O.no "names" (by decide +kernel), rfl, L.n, _, rfl, DPut.k (k := Sum.inr (nmS .next)) DG.nm (by show 10 < sizeLine; decide), ?_⟩
        generalize hG : upd G L.n _ = G2
        have D2 : DkAt G2 x CD dx L { Si with nm := setN Si.nm .next ((Si.nm .next - 1) % Si.sz) } := by
          rw [← hG]
          show DkAt (upd G L.n (.dK (putK (namesL Si.nm) (.inr (nmS .next)) (.int ((Si.nm .next - 1).fmod Si.sz))))) x CD dx L _
          rw [eP]
          exact DG.setN
        have o2 : Off x L G G2 := by rw [← hG]; exact Off.updN _
        have D3 := D2.setB (g := Si.bk ++ [(Si.nm .next - 1) % Si.sz])
        rw [List.map_append] at D3
        refine ⟨_, rfl, x, CD, dx, _, _, rfl, D2.ins, O.cl, O.no "back" (by decide +kernel), rfl, .inl ⟨rfl, _, SqL.of D2.bk⟩, _, rfl, x, CD, dx, _, _, rfl, D2.ins, O.cl, O.no "names" (by decide +kernel), rfl, L.n, _, rfl, get_nm D2 .next, L.b, _, _, rfl, rfl, D2.bk, (by rw [List.length_map, sizeLine_eq]; show Si.bk.length < _; omega), ?_⟩
        exact ⟨_, rfl, (oG.trans o2).trans (Off.updB _), D3⟩
      · rintro σ G ⟨v3, rfl, oG, DG⟩
        refine ⟨_, rfl, x, CD, dx, _, rfl, DG.ins, O.cl, O.no "is_changed" (by decide +kernel), (by show 7 < 1000; decide), ?_⟩
        rw [chg_put]
        exact k _ (oG.trans (Off.updX _)) DG.setX
theorem ok_pa {f fT CD : Addr} {fd dT : FuncData} (F : Fun K "play_again" "play_again" sPa f fd) (O : OBd K CD) (TO : FTo K mg fT dT) (OTO : FnOk P w K mg base CX0 3 fT dT ["desk", "form"] (spTo K CD .again)) (T : Gv mg) : FnOk P w K mg base CX0 4 f fd ["desk", "form"] (spStp K CD (okMv .again) fAgain) := by
  refine F.ok scPa (fun vs H Q E h => ?_) (fun cdv A outer s H vs Q E hr h => ?_)
  · obtain ⟨x, dx, L, S, v, f, rfl, _⟩ := h
    rfl
  · obtain ⟨x, dx, L, S, v, f, rfl, D, td, ok, fit, k⟩ := h
    have hu := hu_of hr
    refine ⟨_, (pss_cons (ps_set (i := 2) scPa.nd rfl (.inl rfl) (pe_call OTO hr rfl TO.g TO.u.kp TO.b .nil pass0 (pa_cons (pv 0) (pa_cons (pv 1) pa_nil))))
 (pss_cons (ps_if (pt_cmpR op_isN (pv 2) pe_non (nomark _)) (pss_one (ps_ret pe_bl)) pss_nil)
 (pss_cons (ps_for PassesOwn.never rfl (pi_range1 (by rfl) T.range (pa_cons (pv 2) pa_nil)) (pg_name (i := 3) scPa.nd rfl (.inl rfl)) (pss_cons (ps_expr (pe_bm PySem.F.plainAttrs_list PySem.F.slot_list_append PySem.F.type_list_append mt_append (pe_fld (pv 0) rfl) (pa_cons (pe_dget hu (pe_fld (pv 0) rfl) pe_str (fun _ _ => rfl)) pa_nil)))
 (pss_one (ps_dput hu (pe_fld (pv 0) rfl) pe_str (pe_op op_modN (pe_op op_add (pe_dget hu (pe_fld (pv 0) rfl) pe_str (fun _ _ => rfl)) pe_int) (pe_fld (pv 0) rfl)) rfl))))
 (pss_cons (ps_fld (pv 0) pe_bl rfl)
 (pss_one (ps_ret pe_bl)))))), ?_⟩
    refine ⟨_, rfl, _, rfl, x, dx, L, S, v, f, rfl, D, td, ok, fit, fun H1 z1 => ?_⟩
    have k := k.same z1
    have D := D.same z1
    unfold fAgain at k
    cases e : timesF S f with
    | none =>
      rw [e] at k
      exact ⟨_, rfl, rfl, _, rfl, iteT (k _ (Off.refl _ _ _) D)⟩
    | some t =>
      rw [e] at k
      obtain ⟨t0, t1⟩ := times_le fit.s1 e
      have b1 := fit.s1
      have b2 := fit.s2
      have b3 := fit.a
      refine ⟨_, rfl, rfl, _, rfl, iteF ?_⟩
      refine ⟨_, rfl, t, rfl, by omega, by omega, for_range (lo := 0) (n := t.toNat) (fun i σ G => ∃ v3 : Option V, σ = [some (.ref x), some v, some (.int t), v3] ∧ Off x L H1 G ∧ DkAt G x CD dx L (iter again1 i S)) ⟨none, rfl, Off.refl _ _ _, D⟩ ?_ ?_⟩
      · rintro i σ G hi ⟨v3, rfl, oG, DG⟩
        have sz := iter_sz again1 (fun _ => rfl) S i
        have bl := again_len S i
        have eI : iter again1 (i + 1) S = again1 (iter again1 i S) := rfl
        rw [eI]
        generalize iter again1 i S = Si at *
        have hz : Si.sz ≠ 0 := by omega
        have eP : putK (namesL Si.nm) (.inr (nmS .next) : Key) (.int ((Si.nm .next + 1).fmod Si.sz)) = namesL (setN Si.nm .next ((Si.nm .next + 1) % Si.sz)) := by rw [fm (by omega)]; exact names_put _ _ _
        have D2 := DG.setR (g := Si.ag ++ [Si.nm .next])
        rw [List.map_append] at D2
        refine ⟨_, rfl, x, CD, dx, _, _, rfl, DG.ins, O.cl, O.no "again" (by decide +kernel), rfl, .inl ⟨rfl, _, SqL.of DG.ag⟩, _, rfl, x, CD, dx, _, _, rfl, DG.ins, O.cl, O.no "names" (by decide +kernel), rfl, L.n, _, rfl, get_nm DG .next, L.r, _, _, rfl, rfl, DG.ag, (by rw [List.length_map, sizeLine_eq]; omega), ?_⟩
        refine ⟨_, rfl, x, CD, dx, _, _, rfl, D2.ins, O.cl, O.no "names" (by decide +kernel), rfl, L.n, _, rfl, get_nm D2 .next, _, _, rfl, rfl, _, rfl, x, CD, dx, _, .int Si.sz, rfl, D2.ins, O.cl, O.no "size" (by decide +kernel), rfl, _, _, rfl, rfl, hz, ?_⟩
        refine ⟨_, rfl, x, CD, dx, _, _, rfl, D2.ins, O.cl, O.no "names" (by decide +kernel), rfl, L.n, _, rfl, DPut.k (k := Sum.inr (nmS .next)) D2.nm (by show 10 < sizeLine; decide), ?_⟩
        refine ⟨_, rfl, oG.trans ((Off.updR _).trans (Off.updN _)), ?_⟩
        show DkAt (upd _ L.n (.dK (putK (namesL Si.nm) (.inr (nmS .next)) (.int ((Si.nm .next + 1).fmod Si.sz))))) x CD dx L _
        rw [eP]
        exact D2.setN
      · rintro σ G ⟨v3, rfl, oG, DG⟩
        refine ⟨_, rfl, x, CD, dx, _, rfl, DG.ins, O.cl, O.no "is_changed" (by decide +kernel), (by show 7 < 1000; decide), ?_⟩
        rw [chg_put]
        exact k _ (oG.trans (Off.updX _)) DG.setX
end
end IdL
namespace L2
open PySem PySem.Spec PyProof.Rows
/-- one of two readings -/
def tEOr (t u : TE) : TE := fun σ H Q => t σ H Q ∨ u σ H Q
theorem pe_or2 {X : Cx} {e : Expr} {t u : TE} (a : PE X e t) (b : PE X e u) : PE X e (tEOr t u) := ⟨fun pins s σ H Q I h => h.elim (a.run pins s σ H Q I) (b.run pins s σ H Q I)⟩
end L2
namespace IdL
open PySem L2 TL
/-! ### from line to line, over a code's forms -/
structure FormsT (K : PySem.W.Frag) (H : Hp) (fa : Addr) (ds : List PyData) : Prop where
  ex : ∃ xs, SqT K H fa xs ∧ TDs K H xs ds
  has : ∀ d ∈ ds, HasW d
theorem FormsT.keep {K : PySem.W.Frag} {H H' : Hp} {fa : Addr} {ds : List PyData} (h : FormsT K H fa ds) (s : KeepT H H') : FormsT K H' fa ds := by
  obtain ⟨xs, h1, h2⟩ := h.ex
  exact ⟨⟨xs, s.seq h1, h2.keep s⟩, h.has⟩
theorem FormsT.head {K : PySem.W.Frag} {H : Hp} {fa : Addr} {ds : List PyData} (h : FormsT K H fa ds) {l : Nat} (hl : l < ds.length) : ∃ xs a ys, SqT K H fa xs ∧ xs.length = ds.length ∧ xs[l]? = some (.ref a) ∧ SqT K H a (.str (headW (ds.getD l .none)) :: ys) ∧ TD K H (.ref a) (ds.getD l .none) := by
  obtain ⟨xs, h1, h2⟩ := h.ex
  obtain ⟨v, hv, tv⟩ := h2.at l hl
  have hm : ds.getD l .none ∈ ds := by
    rw [List.getD_eq_getElem?_getD, List.getElem?_eq_getElem hl]; exact List.getElem_mem _
  obtain ⟨w, r, e⟩ := h.has _ hm
  rw [e] at tv ⊢
  have tv' := tv
  obtain ⟨a, ys, rfl, ha, tys⟩ := tv.tupl
  have hys : ∃ ys', ys = .str w :: ys' := by
    cases tys with
    | cons t1 _ => cases t1; exact ⟨_, rfl⟩
  obtain ⟨ys', rfl⟩ := hys
  exact ⟨xs, a, ys', h1, h2.len, hv, ha, tv'⟩
def spStepT (K : PySem.W.Frag) : Sp := fun vs H Q _ => ∃ (fa ja : Addr) (l : Nat) (ds : List PyData) (jmp : List (Key × V)), vs = [.ref fa, .ref ja, .int ((l : Int) + 1)] ∧ FormsT K H fa ds ∧ H ja = some (.dK jmp) ∧ JOk ds jmp ∧ ds.length ≤ 100000 ∧
  ∀ (m : Nat) H', l ≤ m → StepTo ds jmp l m → (m < ds.length → ¬ (headW (ds.getD m .none) = sElse ∨ headW (ds.getD m .none) = sEnd)) → Same H H' → Q (.int ((m : Int) + 1)) H'
section
variable {P : Program} {w : World} {K : PySem.W.Frag} {mg : Str → Option Value} {base : Heap}
theorem ok_stepT {f : Addr} {fd : FuncData} (F : Fun K "step_on" "step_on" sStep f fd) (T : Gv mg) : FnOk P w K mg base CX0 1 f fd ["forms", "jumps", "line"] (spStepT K) := by
  refine F.ok scStep (fun vs H Q E h => ?_) (fun cdv A outer s H vs Q E hr h => ?_)
  · obtain ⟨fa, ja, l, ds, jmp, rfl, _⟩ := h
    rfl
  · obtain ⟨fa, ja, l, ds, jmp, rfl, hF, hJ, J, few, k⟩ := h
    have hu := hu_of hr
    refine ⟨_, (pss_cons (ps_while PassesOwn.never (PW.pt (pw_and (pt_cmpR op_le (pv 2) (pe_callB call_len_seq (by rfl) T.len PySem.boot_len (pa_cons (pv 0) pa_nil)) (nomark _)) (pw_and1 (pt_cmpR op_in_seq (pe_ix ix_tup (pe_ix ix_tup (pv 0) (pe_op op_sub (pv 2) pe_int) (fun _ _ => rfl)) pe_int (fun _ _ => rfl)) (pe_tup (pa_cons pe_str (pa_cons pe_str pa_nil))) (by rfl))))) (pss_one (ps_set (i := 2) scStep.nd rfl (.inl rfl) (pe_cut (pe_ifExp (pt_cmpR op_eq (pe_ix ix_tup (pe_ix ix_tup (pv 0) (pe_op op_sub (pv 2) pe_int) (fun _ _ => rfl)) pe_int (fun _ _ => rfl)) pe_str (nomark _)) (pe_dget hu (pv 1) (pv 2) (fun _ _ => rfl)) (pe_op op_add (pv 2) pe_int))))))
 (pss_one (ps_ret (pv 2)))), ?_⟩
    refine ⟨fun n σ G => ∃ m : Nat, σ = [some (.ref fa), some (.ref ja), some (.int ((m : Int) + 1))] ∧ Same H G ∧ l ≤ m ∧ (∀ q, StepTo ds jmp m q → StepTo ds jmp l q) ∧ n = ds.length - m, ⟨_, l, rfl, Same.refl H, Nat.le_refl _, (fun _ h => h), rfl⟩, ?_⟩
    rintro n σ G ⟨m, rfl, sG, hm, st, rfl⟩
    have hFG := hF.keep (KeepT.of sG)
    obtain ⟨xs, hxs, tds⟩ := hFG.ex
    refine ⟨_, rfl, _, rfl, fa, _, rfl, .inr hxs, _, _, rfl, rfl, _, rfl, ?_⟩
    rw [tds.len]
    by_cases hle : m < ds.length
    · refine iteY (show (m : Int) + 1 ≤ (ds.length : Int) by omega) ?_
      obtain ⟨v, hv, tv⟩ := tds.at m hle
      have hw : HasW (ds.getD m .none) := hFG.has _ (by rw [List.getD_eq_getElem?_getD, List.getElem?_eq_getElem hle]; exact List.getElem_mem _)
      obtain ⟨w0, r, ew⟩ := hw
      have eh : headW (ds.getD m .none) = w0 := by rw [ew]; rfl
      rw [ew] at tv
      obtain ⟨a, ys, rfl, ha, tys⟩ := tv.tupl
      obtain ⟨ys', rfl⟩ : ∃ ys', ys = .str w0 :: ys' := by
        cases tys with
        | cons t1 _ => cases t1; exact ⟨_, rfl⟩
      rw [← eh] at ha
      refine ⟨_, rfl, _, rfl, _, _, rfl, rfl, fa, xs, _, .ref a, rfl, rfl, hxs, at_nat hv, a, _, _, .str (headW (ds.getD m .none)), rfl, rfl, ha, at_hd _ _, (by show 2 ≤ sizeLine; decide), fun T hT => ?_⟩
      have s7 : Same G _ := same_new (o := .tup (sBlk.map V.str)) hT
      have t7 : upd G T (.tup (sBlk.map V.str)) T = some (.tup (sBlk.map V.str)) := upd_same
      show rIn _ _ _ _ (upd G T (.tup (sBlk.map V.str))) _
      generalize upd G T (.tup (sBlk.map V.str)) = G7 at *
      have s07 := sG.trans s7
      refine ⟨T, _, rfl, .inr (SqT.of t7), rfl, flat_strs sBlk, _, rfl, ?_⟩
      rw [in_strs]
      by_cases hblk : headW (ds.getD m .none) ∈ sBlk
      · refine iteY hblk ⟨fun σ' G' => ∃ m' : Nat, σ' = [some (.ref fa), some (.ref ja), some (.int ((m' : Int) + 1))] ∧ Same H G' ∧ m < m' ∧ (∀ q, StepTo ds jmp m' q → StepTo ds jmp m q), ?_, ?_⟩
        · rintro σ' G' ⟨m', rfl, s', hlt, st'⟩
          exact ⟨ds.length - m', by omega, m', rfl, s', by omega, (fun q h => st q (st' q h)), rfl⟩
        · refine ⟨fun v G => ∃ j : Nat, v = .int ((j : Int) + 1) ∧ G = G7 ∧ m < j ∧ (∀ q, StepTo ds jmp j q → StepTo ds jmp m q), ?_, ?_⟩
          · refine ⟨_, rfl, _, rfl, _, _, rfl, rfl, fa, xs, _, .ref a, rfl, rfl, Same.tup s7 hxs, at_nat hv, a, _, _, .str (headW (ds.getD m .none)), rfl, rfl, Same.tup s7 ha, at_hd _ _, rfl, _, rfl, ?_⟩
            rw [dec_str]
            by_cases hel : headW (ds.getD m .none) = sElse
            · obtain ⟨j, hj, hlt⟩ := J m hle (.inr hel)
              have dg := DGet.k (k := Sum.inl ((m : Int) + 1)) (s07 _ _ hJ)
              rw [hj] at dg
              refine iteY hel ⟨_, rfl, _, rfl, ja, _, rfl, dg, (j - 1).toNat, ?_, rfl, by omega, fun q h => .else_ m (j - 1).toNat q hle hel (by rw [hj]; congr 2; omega) h⟩
              rw [show (((j - 1).toNat : Nat) : Int) + 1 = j by omega]
            · have hen : headW (ds.getD m .none) = sEnd := by
                rcases List.mem_cons.mp hblk with h | h
                · exact absurd h hel
                · exact List.mem_singleton.mp h
              exact iteN hel ⟨_, rfl, _, _, rfl, rfl, m + 1, rfl, rfl, by omega, fun q h => .end_ m q hle hen h⟩
          · rintro v G' ⟨j, rfl, rfl, hj, st'⟩
            exact ⟨j, rfl, s07, hj, st'⟩
      · have nb : ¬ (headW (ds.getD m .none) = sElse ∨ headW (ds.getD m .none) = sEnd) := fun y => hblk (by
          rcases y with h | h
          · rw [h]; exact List.mem_cons_self ..
          · rw [h]; exact List.mem_cons_of_mem _ (List.mem_singleton.mpr rfl))
        refine iteN hblk ⟨_, rfl, k m G7 hm (st m (.stop m fun _ => nb)) (fun _ y => hblk ?_) s07⟩
        rcases y with h | h
        · rw [h]; exact List.mem_cons_self ..
        · rw [h]; exact List.mem_cons_of_mem _ (List.mem_singleton.mpr rfl)
    · exact iteN (show ¬ (m : Int) + 1 ≤ (ds.length : Int) by omega) (iteF ⟨_, rfl, k m G hm (st m (.stop m fun y => absurd y hle)) (fun y => absurd y hle) sG⟩)
end
end IdL
namespace IdL
open PySem L2 TL
/-! ### a code is played -/
def stepN (fs : List Fm) (jm : List (Key × V)) : Nat → Nat → Option Nat
  | 0, _ => none
  | n + 1, l => match fs[l]? with
    | none => some l
    | some f => if headW (fmD f) = sEnd then stepN fs jm n (l + 1) else if headW (fmD f) = sElse then (match valV jm (.inl ((l : Int) + 1) : Key) with
        | some (.int v) => if 1 ≤ v then stepN fs jm n (v - 1).toNat else none
        | _ => none) else some l
theorem fm_getD (fs : List Fm) (l : Nat) : (fs.map fmD).getD l .none = match fs[l]? with | some f => fmD f | none => .none := by
  rw [List.getD_eq_getElem?_getD, List.getElem?_map]
  cases fs[l]? <;> rfl
theorem stepN_ok {fs : List Fm} {jm : List (Key × V)} : ∀ {n l m : Nat}, stepN fs jm n l = some m → StepTo (fs.map fmD) jm l m
  | 0, l, m, h => by cases h
  | n + 1, l, m, h => by
    have eg := fm_getD fs l
    unfold stepN at h
    cases e : fs[l]? with
    | none =>
      rw [e] at h
      cases h
      refine .stop l fun hl => ?_
      rw [List.length_map] at hl
      rw [List.getElem?_eq_getElem hl] at e
      cases e
    | some f =>
      rw [e] at h eg
      have hl : l < (fs.map fmD).length := by rw [List.length_map]; exact (List.getElem?_eq_some_iff.mp e).1
      have h : (if headW (fmD f) = sEnd then stepN fs jm n (l + 1) else if headW (fmD f) = sElse then (match valV jm (.inl ((l : Int) + 1) : Key) with
        | some (.int v) => if 1 ≤ v then stepN fs jm n (v - 1).toNat else none
        | _ => none) else some l) = some m := h
      have eg : (fs.map fmD).getD l .none = fmD f := eg
      by_cases c1 : headW (fmD f) = sEnd
      · rw [if_pos c1] at h
        exact .end_ l m hl (by rw [eg]; exact c1) (stepN_ok h)
      rw [if_neg c1] at h
      by_cases c2 : headW (fmD f) = sElse
      · rw [if_pos c2] at h
        cases ev : valV jm (.inl ((l : Int) + 1) : Key) with
        | none => rw [ev] at h; cases h
        | some vv =>
          rw [ev] at h
          cases vv with
          | int v =>
            have h : (if 1 ≤ v then stepN fs jm n (v - 1).toNat else none) = some m := h
            by_cases c3 : 1 ≤ v
            · rw [if_pos c3] at h
              exact .else_ l (v - 1).toNat m hl (by rw [eg]; exact c2) (by rw [ev]; congr 2; omega) (stepN_ok h)
            · rw [if_neg c3] at h; cases h
          | _ => cases h
      · rw [if_neg c2] at h
        cases h
        exact .stop l fun _ y => y.elim (fun z => c2 (by rw [← eg]; exact z)) fun z => c1 (by rw [← eg]; exact z)
def fitB (S : Dk) : Bool := decide (1 ≤ S.sz) && (decide (S.sz ≤ 1000000) && (decide (S.wr.length ≤ 1000000) && (decide (S.bk.length ≤ 1000000) && decide (S.ag.length ≤ 1000000))))
theorem fit_ok {S : Dk} (h : fitB S = true) : Fit S := by
  unfold fitB at h
  simp only [Bool.and_eq_true, decide_eq_true_eq] at h
  exact ⟨h.1, h.2.1, h.2.2.1, h.2.2.2.1, h.2.2.2.2⟩
def stpF (S : Dk) : Fm → Bool × Dk
  | .set z ts => fSet S (.set z ts)
  | .wrap z ts => fWrap S (.wrap z ts)
  | .sealed z y => fSeal S (.sealed z y)
  | .write z => fWrite S (.write z)
  | .times .back ts => fBack S (.times .back ts)
  | .times .again ts => fAgain S (.times .again ts)
  | .untl .back z => fBack S (.untl .back z)
  | .untl .again z => fAgain S (.untl .again z)
  | _ => (false, S)
def sumB (ts : List (Int × Tv)) : Bool := decide (ts.length ≤ 1000) && ts.all fun t => decide (-1 ≤ t.1) && decide (t.1 ≤ 1)
theorem sum_ok {ts : List (Int × Tv)} (h : sumB ts = true) : SumOk ts := by
  unfold sumB at h
  rw [Bool.and_eq_true] at h
  refine ⟨of_decide_eq_true h.1, fun t ht => ?_⟩
  have := List.all_eq_true.mp h.2 t ht
  rw [Bool.and_eq_true] at this
  exact ⟨of_decide_eq_true this.1, of_decide_eq_true this.2⟩
def okB : Fm → Bool
  | .set _ ts => sumB ts
  | .wrap _ ts => sumB ts
  | .times _ ts => sumB ts
  | .iff ps => decide (ps.length ≤ 1000)
  | _ => true
def stepP : Fm → Bool
  | .one _ => false
  | .iff _ => false
  | _ => true
def jmpTo (jm : List (Key × V)) (l : Nat) : Option Nat := match valV jm (.inl ((l : Int) + 1) : Key) with
  | some (.int v) => if 1 ≤ v then some (v - 1).toNat else none
  | _ => none
def oneF (fs : List Fm) (jm : List (Key × V)) (l : Nat) (S : Dk) : Fm → Option (Sum (Str × Dk) (Nat × Dk))
  | .one w => if w = "no" then some (.inl ("refused", S)) else if w = "quit" then some (.inl ("done", S)) else none
  | .iff ps => ((if testF S ps = true then some (l + 1) else jmpTo jm l).bind (stepN fs jm 100)).map fun m => .inr (m, S)
  | f => if fitB S = true then (if (stpF S f).1 = true then (stepN fs jm 100 (l + 1)).map fun m => .inr (m, (stpF S f).2) else some (.inl ("beyond", (stpF S f).2))) else none
def goF (fs : List Fm) (jm : List (Key × V)) : Nat → Nat → Dk → Option (Str × Dk)
  | 0, _, _ => none
  | n + 1, l, S => match fs[l]? with
    | none => some ("done", S)
    | some f => match oneF fs jm l S f with
      | none => none
      | some (.inl r) => some r
      | some (.inr r) => goF fs jm n r.1 r.2
abbrev sPf : Stmt := top 75
def NPf : List Str := ["code", "desk", "line", "form", "ahead", "step"]
theorem scPf : FnScope NPf ["code", "desk"] (defScope sPf) := ⟨rfl, rfl, rfl, by decide +kernel, rfl, by decide +kernel, by decide +kernel⟩
structure FPf (K : PySem.W.Frag) (mg : Str → Option Value) (f : Addr) (d : FuncData) : Prop where
  u : Fun K "play_forms" "play_forms" sPf f d
  b : Binds K d ["code", "desk"] []
  g : mg "play_forms" = some (.ref f)
/-- a code that may be played -/
structure CdP (K : PySem.W.Frag) (H : Hp) (cx CC : Addr) (kd : Str) (rv : V) (fs : List Fm) (jm : List (Key × V)) : Prop where
  ex : ∃ (dx t1 t2 ja aa : Addr) (z : Str), H cx = some (.ins CC dx (cdF (.str kd) rv z t1 t2 ja aa)) ∧ FormsT K H t2 (fs.map fmD) ∧ H ja = some (.dK jm)
  jo : JOk (fs.map fmD) jm
  ln : fs.length ≤ 100000
  ok : fs.all okB = true
/-- the desk is none of the code's objects -/
structure Apart (H : Hp) (cx CC x : Addr) (L : DkL) : Prop where
  ne : cx ≠ x
  ja : ∀ (dx t1 t2 ja aa : Addr) (kv rv : V) (z : Str), H cx = some (.ins CC dx (cdF kv rv z t1 t2 ja aa)) → ja ≠ L.n ∧ ja ≠ L.s
theorem rd_ne {H : Hp} {a b : Addr} {xs : List V} {o' : HO} (h : Rd H a (.tup xs)) (e : H b = some o') (n1 : ∀ ys, o' ≠ .tup ys) (n2 : ∀ y u, o' ≠ .frz y u) : a ≠ b := fun z => by
  subst z
  rcases h with h | ⟨y, h⟩
  · rw [e] at h; cases h; exact n1 _ rfl
  · rw [e] at h; cases h; exact n2 _ _ rfl
theorem off_keepT {H H' : Hp} {x CD dx : Addr} {L : DkL} {S : Dk} (o : Off x L H H') (D : DkAt H x CD dx L S) : KeepT H H' := fun a xs h => by
  have n1 := rd_ne h D.ins (fun _ z => nomatch z) (fun _ _ z => nomatch z)
  have n2 := rd_ne h D.nm (fun _ z => nomatch z) (fun _ _ z => nomatch z)
  have n3 := rd_ne h D.se (fun _ z => nomatch z) (fun _ _ z => nomatch z)
  have n4 := rd_ne h D.wr (fun _ z => nomatch z) (fun _ _ z => nomatch z)
  have n5 := rd_ne h D.bk (fun _ z => nomatch z) (fun _ _ z => nomatch z)
  have n6 := rd_ne h D.ag (fun _ z => nomatch z) (fun _ _ z => nomatch z)
  rcases h with h | ⟨y, h⟩
  · exact .inl (o _ _ n1 n2 n3 n4 n5 n6 h)
  · exact .inr ⟨y, o _ _ n1 n2 n3 n4 n5 n6 h⟩
/-- a code keeps while the desk changes -/
theorem CdP.off {K : PySem.W.Frag} {H H' : Hp} {cx CC x CD dx : Addr} {kd : Str} {rv : V} {fs : List Fm} {jm : List (Key × V)} {L : DkL} {S : Dk} (C : CdP K H cx CC kd rv fs jm) (A : Apart H cx CC x L) (o : Off x L H H') (D : DkAt H x CD dx L S) : CdP K H' cx CC kd rv fs jm := by
  obtain ⟨dc, t1, t2, ja, aa, z, h1, h2, h3⟩ := C.ex
  obtain ⟨j1, j2⟩ := A.ja _ _ _ _ _ _ _ _ h1
  refine ⟨⟨dc, t1, t2, ja, aa, z, ?_, h2.keep (off_keepT o D), ?_⟩, C.jo, C.ln, C.ok⟩
  · exact o _ _ A.ne (ne_of h1 D.nm (fun z => nomatch z)) (ne_of h1 D.se (fun z => nomatch z)) (ne_of h1 D.wr (fun z => nomatch z)) (ne_of h1 D.bk (fun z => nomatch z)) (ne_of h1 D.ag (fun z => nomatch z)) h1
  · exact o _ _ (ne_of h3 D.ins (fun z => nomatch z)) j1 j2 (ne_of h3 D.wr (fun z => nomatch z)) (ne_of h3 D.bk (fun z => nomatch z)) (ne_of h3 D.ag (fun z => nomatch z)) h3
theorem Apart.off {K : PySem.W.Frag} {H H' : Hp} {cx CC x CD dx : Addr} {kd : Str} {rv : V} {fs : List Fm} {jm : List (Key × V)} {L : DkL} {S : Dk} (A : Apart H cx CC x L) (C : CdP K H cx CC kd rv fs jm) (o : Off x L H H') (D : DkAt H x CD dx L S) : Apart H' cx CC x L := by
  obtain ⟨dc, t1, t2, ja, aa, z, h1, h2, h3⟩ := C.ex
  have h1' := o _ _ A.ne (ne_of h1 D.nm (fun z => nomatch z)) (ne_of h1 D.se (fun z => nomatch z)) (ne_of h1 D.wr (fun z => nomatch z)) (ne_of h1 D.bk (fun z => nomatch z)) (ne_of h1 D.ag (fun z => nomatch z)) h1
  refine ⟨A.ne, fun dx' t1' t2' ja' aa' kv rv' z' e => ?_⟩
  rw [h1'] at e
  have e2 := HO.ins.inj (Option.some.inj e)
  obtain ⟨_, _, e3⟩ := e2
  have e4 : V.ref ja = V.ref ja' := by
    have := congrArg (fun l : List (Str × V) => (l[5]?).map (·.2)) e3
    exact Option.some.inj this
  cases e4
  exact A.ja _ _ _ _ _ _ _ _ h1
/-- what a play of forms gives -/
def spPf (K : PySem.W.Frag) (CC CD : Addr) : Sp := fun vs H Q _ => ∃ (cx x dx : Addr) (kd : Str) (rv : V) (fs : List Fm) (jm : List (Key × V)) (L : DkL) (S S' : Dk) (wd : Str) (l0 n : Nat), vs = [.ref cx, .ref x] ∧ CdP K H cx CC kd rv fs jm ∧ Apart H cx CC x L ∧ DkAt H x CD dx L S ∧
  stepN fs jm 100 0 = some l0 ∧ goF fs jm n l0 S = some (wd, S') ∧ ∀ H', Off x L H H' → DkAt H' x CD dx L S' → Q (.str wd) H'
theorem fm_head {K : PySem.W.Frag} {H : Hp} {v : V} {f : Fm} (h : TD K H v (fmD f)) : ∃ a ys, v = .ref a ∧ SqT K H a (.str (headW (fmD f)) :: ys) := by
  have e : ∃ r, fmD f = .tuple (.str (headW (fmD f)) :: r) := by cases f <;> exact ⟨_, rfl⟩
  obtain ⟨r, e⟩ := e
  rw [e] at h
  obtain ⟨a, ys, rfl, ha, tys⟩ := h.tupl
  cases tys with
  | cons t1 _ => cases t1; exact ⟨a, _, rfl, ha⟩
def ends2 : List Str := ["no", "quit"]
theorem head_step {f : Fm} (h : stepP f = true) : headW (fmD f) ∉ ends2 ∧ headW (fmD f) ≠ "if" := by
  cases f with
  | one w => cases h
  | iff ps => cases h
  | set z ts => exact show ("set" : Str) ∉ ends2 ∧ ("set" : Str) ≠ "if" from ⟨by decide +kernel, by decide +kernel⟩
  | wrap z ts => exact show ("wrap" : Str) ∉ ends2 ∧ ("wrap" : Str) ≠ "if" from ⟨by decide +kernel, by decide +kernel⟩
  | sealed z y => exact show ("sealed" : Str) ∉ ends2 ∧ ("sealed" : Str) ≠ "if" from ⟨by decide +kernel, by decide +kernel⟩
  | write z => exact show ("write" : Str) ∉ ends2 ∧ ("write" : Str) ≠ "if" from ⟨by decide +kernel, by decide +kernel⟩
  | times m ts =>
    cases m
    · exact show ("back" : Str) ∉ ends2 ∧ ("back" : Str) ≠ "if" from ⟨by decide +kernel, by decide +kernel⟩
    · exact show ("again" : Str) ∉ ends2 ∧ ("again" : Str) ≠ "if" from ⟨by decide +kernel, by decide +kernel⟩
  | untl m z =>
    cases m
    · exact show ("back" : Str) ∉ ends2 ∧ ("back" : Str) ≠ "if" from ⟨by decide +kernel, by decide +kernel⟩
    · exact show ("again" : Str) ∉ ends2 ∧ ("again" : Str) ≠ "if" from ⟨by decide +kernel, by decide +kernel⟩
theorem one_step {fs : List Fm} {jm : List (Key × V)} {l : Nat} {S : Dk} {f : Fm} (h : stepP f = true) : oneF fs jm l S f = if fitB S = true then (if (stpF S f).1 = true then (stepN fs jm 100 (l + 1)).map fun m => .inr (m, (stpF S f).2) else some (.inl ("beyond", (stpF S f).2))) else none := by
  cases f with
  | one w => cases h
  | iff ps => cases h
  | _ => rfl
theorem jmp_val {jm : List (Key × V)} {l b : Nat} (h : jmpTo jm l = some b) : ∃ v : Int, valV jm (.inl ((l : Int) + 1) : Key) = some (.int v) ∧ v = (b : Int) + 1 := by
  unfold jmpTo at h
  cases e : valV jm (.inl ((l : Int) + 1) : Key) with
  | none => rw [e] at h; cases h
  | some vv =>
    rw [e] at h
    cases vv with
    | int v =>
      have h : (if 1 ≤ v then some (v - 1).toNat else none) = some b := h
      by_cases c : 1 ≤ v
      · rw [if_pos c] at h
        cases h
        exact ⟨v, rfl, by omega⟩
      · rw [if_neg c] at h; cases h
    | _ => cases h
/-- a def that is called by a local name -/
structure FCall (K : PySem.W.Frag) (f : Addr) (d : FuncData) : Prop where
  kp : PySem.W.keepIn K (.ref f) = true
  b : Binds K d ["desk", "form"] []
section
variable {P : Program} {w : World} {K : PySem.W.Frag} {mg : Str → Option Value} {base : Heap}
theorem ok_pf {f fS fT f1 f2 f3 f4 f5 f6 CC CD pS : Addr} {fd dS dT d1 d2 d3 d4 d5 d6 : FuncData} (F : Fun K "play_forms" "play_forms" sPf f fd) (OC : OCd K CC) (ST : FStep K mg fS dS) (OST : FnOk P w K mg base CX0 1 fS dS ["forms", "jumps", "line"] (spStepT K)) (TH : FTh K mg fT dT) (OTH : FnOk P w K mg base CX0 2 fT dT ["desk", "parts"] (spTh K CD))
    (F1 : FCall K f1 d1) (F2 : FCall K f2 d2) (F3 : FCall K f3 d3) (F4 : FCall K f4 d4) (F5 : FCall K f5 d5) (F6 : FCall K f6 d6)
    (O1 : FnOk P w K mg base CX0 3 f1 d1 ["desk", "form"] (spStp K CD okSet fSet)) (O2 : FnOk P w K mg base CX0 3 f2 d2 ["desk", "form"] (spStp K CD okWrap fWrap)) (O3 : FnOk P w K mg base CX0 1 f3 d3 ["desk", "form"] (spStp K CD okSeal fSeal)) (O4 : FnOk P w K mg base CX0 2 f4 d4 ["desk", "form"] (spStp K CD okWrite fWrite)) (O5 : FnOk P w K mg base CX0 4 f5 d5 ["desk", "form"] (spStp K CD (okMv .back) fBack)) (O6 : FnOk P w K mg base CX0 4 f6 d6 ["desk", "form"] (spStp K CD (okMv .again) fAgain))
    (gS : mg "STEPS" = some (.ref pS)) (k1 : KDct K w pS "set" (.ref f1)) (k2 : KDct K w pS "wrap" (.ref f2)) (k3 : KDct K w pS "sealed" (.ref f3)) (k4 : KDct K w pS "write" (.ref f4)) (k5 : KDct K w pS "back" (.ref f5)) (k6 : KDct K w pS "again" (.ref f6)) (T : Gv mg) : FnOk P w K mg base CX0 5 f fd ["code", "desk"] (spPf K CC CD) := by
  refine F.ok scPf (fun vs H Q E h => ?_) (fun cdv A outer s H vs Q E hr h => ?_)
  · obtain ⟨cx, x, dx, kd, rv, fs, jm, L, S, S', wd, l0, n, rfl, _⟩ := h
    rfl
  · obtain ⟨cx, x, dx, kd, rv, fs, jm, L, S, S', wd, l0, n, rfl, C, AP, D, e0, eg, k⟩ := h
    have hu := hu_of hr
    have hr1 := hr.mono (show 1 ≤ 4 by decide)
    have hr2 := hr.mono (show 2 ≤ 4 by decide)
    have hr3 := hr.mono (show 3 ≤ 4 by decide)
    have hr4 := hr
    refine ⟨_, (pss_cons (ps_set (i := 2) scPf.nd rfl (.inl rfl) (pe_call OST hr1 rfl ST.g ST.u.kp ST.b .nil pass0 (pa_cons (pe_fld (pv 0) rfl) (pa_cons (pe_fld (pv 0) rfl) (pa_cons pe_int pa_nil)))))
 (pss_cons (ps_while PassesOwn.never (pt_cmpR op_le (pv 2) (pe_callB call_len_seq (by rfl) T.len PySem.boot_len (pa_cons (pe_fld (pv 0) rfl) pa_nil)) (nomark _)) (pss_cons (ps_set (i := 3) scPf.nd rfl (.inl rfl) (pe_ix ix_tup (pe_fld (pv 0) rfl) (pe_op op_sub (pv 2) pe_int) (fun _ _ => rfl)))
 (pss_cons (ps_if (pt_cmpR op_in_seq (pe_ix ix_tup (pv 3) pe_int (fun _ _ => rfl)) (pe_tup (pa_cons pe_str (pa_cons pe_str pa_nil))) (by rfl)) (pss_one (ps_ret (pe_cut (pe_ifExp (pt_cmpR op_eq (pe_ix ix_tup (pv 3) pe_int (fun _ _ => rfl)) pe_str (nomark _)) pe_str pe_str)))) pss_nil)
 (pss_cons (ps_set (i := 4) scPf.nd rfl (.inl rfl) (pe_op op_add (pv 2) pe_int))
 (pss_join (ps_if (pt_cmpR op_eq (pe_ix ix_tup (pv 3) pe_int (fun _ _ => rfl)) pe_str (nomark _)) (pss_one (ps_set (i := 4) scPf.nd rfl (.inl rfl) (pe_cut (pe_ifExp (pt_val (pe_call OTH hr2 rfl TH.g TH.u.kp TH.b .nil pass0 (pa_cons (pv 1) (pa_cons (pe_ix ix_tup (pv 3) pe_int (fun _ _ => rfl)) pa_nil)))) (pv 4) (pe_dget hu (pe_fld (pv 0) rfl) (pv 2) (fun _ _ => rfl)))))) (pss_cons (ps_set (i := 5) scPf.nd rfl (.inl rfl) (pe_ix ix_kdict (pe_glob rfl gS (v := .ref pS) rfl) (pe_ix ix_tup (pv 3) pe_int (fun _ _ => rfl)) (fun _ _ => rfl)))
 (pss_one (ps_if (pt_not (pt_val (pe_or2 (pe_callL (i := 5) O1 hr3 rfl (.inl rfl) F1.kp F1.b .nil pass0 (pa_cons (pv 1) (pa_cons (pv 3) pa_nil))) (pe_or2 (pe_callL (i := 5) O2 hr3 rfl (.inl rfl) F2.kp F2.b .nil pass0 (pa_cons (pv 1) (pa_cons (pv 3) pa_nil))) (pe_or2 (pe_callL (i := 5) O3 hr1 rfl (.inl rfl) F3.kp F3.b .nil pass0 (pa_cons (pv 1) (pa_cons (pv 3) pa_nil))) (pe_or2 (pe_callL (i := 5) O4 hr2 rfl (.inl rfl) F4.kp F4.b .nil pass0 (pa_cons (pv 1) (pa_cons (pv 3) pa_nil))) (pe_or2 (pe_callL (i := 5) O5 hr4 rfl (.inl rfl) F5.kp F5.b .nil pass0 (pa_cons (pv 1) (pa_cons (pv 3) pa_nil))) (pe_callL (i := 5) O6 hr4 rfl (.inl rfl) F6.kp F6.b .nil pass0 (pa_cons (pv 1) (pa_cons (pv 3) pa_nil)))))))))) (pss_one (ps_ret pe_str)) pss_nil))))
 (pss_one (ps_set (i := 2) scPf.nd rfl (.inl rfl) (pe_call OST hr1 rfl ST.g ST.u.kp ST.b .nil pass0 (pa_cons (pe_fld (pv 0) rfl) (pa_cons (pe_fld (pv 0) rfl) (pa_cons (pv 4) pa_nil)))))))))))
 (pss_one (ps_ret pe_str)))), ?_⟩
    obtain ⟨dc, t1, t2, ja, aa, z, h1, h2, h3⟩ := C.ex
    have lnD : (fs.map fmD).length ≤ 100000 := by rw [List.length_map]; exact C.ln
    refine ⟨_, rfl, cx, CC, dc, _, _, rfl, h1, OC.cl, OC.no "forms" (by decide +kernel), rfl, _, rfl, cx, CC, dc, _, _, rfl, h1, OC.cl, OC.no "jumps" (by decide +kernel), rfl, t2, ja, 0, _, jm, rfl, h2, h3, C.jo, lnD, fun m H1 _ st _ z1 => ?_⟩
    obtain rfl : m = l0 := st.one (stepN_ok e0)
    refine ⟨fun q σ G => ∃ (l : Nat) (Sg : Dk) (v3 v4 v5 : Option V), σ = [some (.ref cx), some (.ref x), some (.int ((l : Int) + 1)), v3, v4, v5] ∧ Off x L H G ∧ DkAt G x CD dx L Sg ∧ goF fs jm q l Sg = some (wd, S'), ⟨n, m, S, none, none, none, rfl, Off.of z1, D.same z1, eg⟩, ?_⟩
    rintro q σ G ⟨l, Sg, v3, v4, v5, rfl, oG, DG, eg⟩
    have C' := C.off AP oG D
    obtain ⟨dc, t1, t2, ja, aa, z, h1, h2, h3⟩ := C'.ex
    obtain ⟨xs, hxs, tds⟩ := h2.ex
    have lx : xs.length = fs.length := by rw [tds.len, List.length_map]
    refine ⟨_, rfl, _, rfl, cx, CC, dc, _, _, rfl, h1, OC.cl, OC.no "forms" (by decide +kernel), rfl, t2, _, rfl, .inr hxs, _, _, rfl, rfl, _, rfl, ?_⟩
    cases q with
    | zero => cases eg
    | succ q =>
    by_cases hle : l < fs.length
    · refine iteY (show (l : Int) + 1 ≤ (xs.length : Int) by omega) ?_
      obtain ⟨y, hy⟩ : ∃ y, xs[l]? = some y := ⟨xs[l], List.getElem?_eq_getElem (by omega)⟩
      obtain ⟨f, ef, tf⟩ := td_get tds hy
      obtain ⟨a, ys, rfl, ha⟩ := fm_head tf
      have okf : okB f = true := List.all_eq_true.mp C.ok f (List.mem_of_getElem? ef)
      have eg' : (match oneF fs jm l Sg f with
        | none => none
        | some (.inl r) => some r
        | some (.inr r) => goF fs jm q r.1 r.2) = some (wd, S') := by
        have := eg
        unfold goF at this
        rw [ef] at this
        exact this
      refine ⟨fun σ' G' => ∃ (l : Nat) (Sg : Dk) (v3 v4 v5 : Option V), σ' = [some (.ref cx), some (.ref x), some (.int ((l : Int) + 1)), v3, v4, v5] ∧ Off x L H G' ∧ DkAt G' x CD dx L Sg ∧ goF fs jm q l Sg = some (wd, S'), fun σ' G' h => ⟨q, Nat.lt_succ_self q, h⟩, ?_⟩
      refine ⟨_, rfl, cx, CC, dc, _, _, rfl, h1, OC.cl, OC.no "forms" (by decide +kernel), rfl, _, rfl, _, _, rfl, rfl, t2, xs, _, .ref a, rfl, rfl, hxs, at_nat hy, ?_⟩
      refine ⟨_, rfl, a, _, 0, .str (headW (fmD f)), rfl, rfl, ha, at_hd _ _, (by show 2 ≤ sizeLine; decide), fun T hT => ?_⟩
      have s7 : Same G _ := same_new (o := .tup (ends2.map V.str)) hT
      have t7 : upd G T (.tup (ends2.map V.str)) T = some (.tup (ends2.map V.str)) := upd_same
      show rIn _ _ _ _ (upd G T (.tup (ends2.map V.str))) _
      generalize upd G T (.tup (ends2.map V.str)) = G7 at *
      have o7 : Off x L H G7 := oG.trans (Off.of s7)
      have D7 := DG.same s7
      have ha7 := Same.tup s7 ha
      have tf7 := tf.keep (KeepT.of s7)
      have h17 := s7 _ _ h1
      have h37 := s7 _ _ h3
      have h27 := h2.keep (KeepT.of s7)
      refine ⟨T, _, rfl, .inr (SqT.of t7), rfl, flat_strs ends2, _, rfl, ?_⟩
      rw [in_strs]
      by_cases hin : headW (fmD f) ∈ ends2
      · refine iteY hin ?_
        cases hst : stepP f with
        | true => exact absurd hin (head_step hst).1
        | false =>
          cases f with
          | one w =>
            have hw : headW (fmD (.one w)) = w := rfl
            rw [hw] at hin ha7
            refine ⟨fun v G => v = .str (if w = "no" then "refused" else "done") ∧ G = G7, ?_, ?_⟩
            · refine ⟨_, rfl, a, _, 0, _, rfl, rfl, ha7, at_hd _ _, rfl, _, rfl, ?_⟩
              rw [dec_str]
              by_cases hn : w = "no"
              · exact iteY hn ⟨by rw [if_pos hn], rfl⟩
              · exact iteN hn ⟨by rw [if_neg hn], rfl⟩
            · rintro v G' ⟨rfl, rfl⟩
              have eo : oneF fs jm l Sg (.one w) = if w = "no" then some (.inl ("refused", Sg)) else if w = "quit" then some (.inl ("done", Sg)) else none := rfl
              rw [eo] at eg'
              by_cases hn : w = "no"
              · rw [if_pos hn] at eg' ⊢
                cases eg'
                exact k _ o7 D7
              · rw [if_neg hn] at eg' ⊢
                have hq : w = "quit" := by
                  rcases List.mem_cons.mp hin with h | h
                  · exact absurd h hn
                  · exact List.mem_singleton.mp h
                rw [if_pos hq] at eg'
                cases eg'
                exact k _ o7 D7
          | iff ps => exact absurd (show ("if" : Str) ∈ ends2 from hin) (by decide +kernel)
          | _ => cases hst
      refine iteN hin ?_
      refine ⟨_, rfl, _, _, rfl, rfl, ?_⟩
      refine ⟨fun τ G' => ∃ (b : Nat) (Sg' : Dk) (v5 : Option V) (m : Nat), τ = [some (.ref cx), some (.ref x), some (.int ((l : Int) + 1)), some (.ref a), some (.int ((b : Int) + 1)), v5] ∧ Off x L H G' ∧ DkAt G' x CD dx L Sg' ∧ stepN fs jm 100 b = some m ∧ goF fs jm q m Sg' = some (wd, S'), ?_, ?_⟩
      · refine ⟨_, rfl, a, _, 0, _, rfl, rfl, ha7, at_hd _ _, rfl, _, rfl, ?_⟩
        rw [dec_str]
        cases hst : stepP f with
        | true =>
          obtain ⟨n1, n2⟩ := head_step hst
          rw [one_step hst] at eg'
          cases hfit : fitB Sg with
          | false =>
            rw [if_neg (by rw [hfit]; exact Bool.false_ne_true)] at eg'
            cases eg'
          | true =>
          rw [if_pos hfit] at eg'
          have fit := fit_ok hfit
          refine iteN n2 ?_
          cases f with
          | one w => cases hst
          | iff ps => cases hst
          | set z ts =>
            refine ⟨_, rfl, a, _, 0, _, rfl, rfl, ha7, at_hd _ _, pS, "set", _, rfl, rfl, k1, ?_⟩
            refine .inl (⟨rfl, _, rfl, _, rfl, x, dx, L, Sg, .ref a, _, rfl, D7, tf7, sum_ok okf, fit, fun H' o' D' => ?_⟩)
            refine ⟨_, rfl, ?_⟩
            have o8 := o7.trans o'
            cases eb : (stpF Sg (.set z ts)).1 with
            | false =>
              rw [if_neg (by rw [eb]; exact Bool.false_ne_true)] at eg'
              cases eg'
              rw [show (fSet Sg (.set z ts)).1 = false from eb]
              exact iteT (k H' o8 D')
            | true =>
              rw [if_pos eb] at eg'
              cases em : stepN fs jm 100 (l + 1) with
              | none => rw [em] at eg'; cases eg'
              | some m2 =>
                rw [em] at eg'
                rw [show (fSet Sg (.set z ts)).1 = true from eb]
                exact iteF ⟨l + 1, _, _, m2, rfl, o8, D', em, eg'⟩
          | wrap z ts =>
            refine ⟨_, rfl, a, _, 0, _, rfl, rfl, ha7, at_hd _ _, pS, "wrap", _, rfl, rfl, k2, ?_⟩
            refine .inr (.inl (⟨rfl, _, rfl, _, rfl, x, dx, L, Sg, .ref a, _, rfl, D7, tf7, sum_ok okf, fit, fun H' o' D' => ?_⟩))
            refine ⟨_, rfl, ?_⟩
            have o8 := o7.trans o'
            cases eb : (stpF Sg (.wrap z ts)).1 with
            | false =>
              rw [if_neg (by rw [eb]; exact Bool.false_ne_true)] at eg'
              cases eg'
              rw [show (fWrap Sg (.wrap z ts)).1 = false from eb]
              exact iteT (k H' o8 D')
            | true =>
              rw [if_pos eb] at eg'
              cases em : stepN fs jm 100 (l + 1) with
              | none => rw [em] at eg'; cases eg'
              | some m2 =>
                rw [em] at eg'
                rw [show (fWrap Sg (.wrap z ts)).1 = true from eb]
                exact iteF ⟨l + 1, _, _, m2, rfl, o8, D', em, eg'⟩
          | sealed z y =>
            refine ⟨_, rfl, a, _, 0, _, rfl, rfl, ha7, at_hd _ _, pS, "sealed", _, rfl, rfl, k3, ?_⟩
            refine .inr (.inr (.inl (⟨rfl, _, rfl, _, rfl, x, dx, L, Sg, .ref a, _, rfl, D7, tf7, True.intro, fit, fun H' o' D' => ?_⟩)))
            refine ⟨_, rfl, ?_⟩
            have o8 := o7.trans o'
            cases eb : (stpF Sg (.sealed z y)).1 with
            | false =>
              rw [if_neg (by rw [eb]; exact Bool.false_ne_true)] at eg'
              cases eg'
              rw [show (fSeal Sg (.sealed z y)).1 = false from eb]
              exact iteT (k H' o8 D')
            | true =>
              rw [if_pos eb] at eg'
              cases em : stepN fs jm 100 (l + 1) with
              | none => rw [em] at eg'; cases eg'
              | some m2 =>
                rw [em] at eg'
                rw [show (fSeal Sg (.sealed z y)).1 = true from eb]
                exact iteF ⟨l + 1, _, _, m2, rfl, o8, D', em, eg'⟩
          | write z =>
            refine ⟨_, rfl, a, _, 0, _, rfl, rfl, ha7, at_hd _ _, pS, "write", _, rfl, rfl, k4, ?_⟩
            refine .inr (.inr (.inr (.inl (⟨rfl, _, rfl, _, rfl, x, dx, L, Sg, .ref a, _, rfl, D7, tf7, True.intro, fit, fun H' o' D' => ?_⟩))))
            refine ⟨_, rfl, ?_⟩
            have o8 := o7.trans o'
            cases eb : (stpF Sg (.write z)).1 with
            | false =>
              rw [if_neg (by rw [eb]; exact Bool.false_ne_true)] at eg'
              cases eg'
              rw [show (fWrite Sg (.write z)).1 = false from eb]
              exact iteT (k H' o8 D')
            | true =>
              rw [if_pos eb] at eg'
              cases em : stepN fs jm 100 (l + 1) with
              | none => rw [em] at eg'; cases eg'
              | some m2 =>
                rw [em] at eg'
                rw [show (fWrite Sg (.write z)).1 = true from eb]
                exact iteF ⟨l + 1, _, _, m2, rfl, o8, D', em, eg'⟩
          | times m ts =>
            cases m with
            | back =>
                refine ⟨_, rfl, a, _, 0, _, rfl, rfl, ha7, at_hd _ _, pS, "back", _, rfl, rfl, k5, ?_⟩
                refine .inr (.inr (.inr (.inr (.inl (⟨rfl, _, rfl, _, rfl, x, dx, L, Sg, .ref a, _, rfl, D7, tf7, ⟨rfl, sum_ok okf⟩, fit, fun H' o' D' => ?_⟩)))))
                refine ⟨_, rfl, ?_⟩
                have o8 := o7.trans o'
                cases eb : (stpF Sg (.times .back ts)).1 with
                | false =>
                  rw [if_neg (by rw [eb]; exact Bool.false_ne_true)] at eg'
                  cases eg'
                  rw [show (fBack Sg (.times .back ts)).1 = false from eb]
                  exact iteT (k H' o8 D')
                | true =>
                  rw [if_pos eb] at eg'
                  cases em : stepN fs jm 100 (l + 1) with
                  | none => rw [em] at eg'; cases eg'
                  | some m2 =>
                    rw [em] at eg'
                    rw [show (fBack Sg (.times .back ts)).1 = true from eb]
                    exact iteF ⟨l + 1, _, _, m2, rfl, o8, D', em, eg'⟩
            | again =>
                refine ⟨_, rfl, a, _, 0, _, rfl, rfl, ha7, at_hd _ _, pS, "again", _, rfl, rfl, k6, ?_⟩
                refine .inr (.inr (.inr (.inr (.inr ((⟨rfl, _, rfl, _, rfl, x, dx, L, Sg, .ref a, _, rfl, D7, tf7, ⟨rfl, sum_ok okf⟩, fit, fun H' o' D' => ?_⟩))))))
                refine ⟨_, rfl, ?_⟩
                have o8 := o7.trans o'
                cases eb : (stpF Sg (.times .again ts)).1 with
                | false =>
                  rw [if_neg (by rw [eb]; exact Bool.false_ne_true)] at eg'
                  cases eg'
                  rw [show (fAgain Sg (.times .again ts)).1 = false from eb]
                  exact iteT (k H' o8 D')
                | true =>
                  rw [if_pos eb] at eg'
                  cases em : stepN fs jm 100 (l + 1) with
                  | none => rw [em] at eg'; cases eg'
                  | some m2 =>
                    rw [em] at eg'
                    rw [show (fAgain Sg (.times .again ts)).1 = true from eb]
                    exact iteF ⟨l + 1, _, _, m2, rfl, o8, D', em, eg'⟩
          | untl m z =>
            cases m with
            | back =>
                refine ⟨_, rfl, a, _, 0, _, rfl, rfl, ha7, at_hd _ _, pS, "back", _, rfl, rfl, k5, ?_⟩
                refine .inr (.inr (.inr (.inr (.inl (⟨rfl, _, rfl, _, rfl, x, dx, L, Sg, .ref a, _, rfl, D7, tf7, rfl, fit, fun H' o' D' => ?_⟩)))))
                refine ⟨_, rfl, ?_⟩
                have o8 := o7.trans o'
                cases eb : (stpF Sg (.untl .back z)).1 with
                | false =>
                  rw [if_neg (by rw [eb]; exact Bool.false_ne_true)] at eg'
                  cases eg'
                  rw [show (fBack Sg (.untl .back z)).1 = false from eb]
                  exact iteT (k H' o8 D')
                | true =>
                  rw [if_pos eb] at eg'
                  cases em : stepN fs jm 100 (l + 1) with
                  | none => rw [em] at eg'; cases eg'
                  | some m2 =>
                    rw [em] at eg'
                    rw [show (fBack Sg (.untl .back z)).1 = true from eb]
                    exact iteF ⟨l + 1, _, _, m2, rfl, o8, D', em, eg'⟩
            | again =>
                refine ⟨_, rfl, a, _, 0, _, rfl, rfl, ha7, at_hd _ _, pS, "again", _, rfl, rfl, k6, ?_⟩
                refine .inr (.inr (.inr (.inr (.inr ((⟨rfl, _, rfl, _, rfl, x, dx, L, Sg, .ref a, _, rfl, D7, tf7, rfl, fit, fun H' o' D' => ?_⟩))))))
                refine ⟨_, rfl, ?_⟩
                have o8 := o7.trans o'
                cases eb : (stpF Sg (.untl .again z)).1 with
                | false =>
                  rw [if_neg (by rw [eb]; exact Bool.false_ne_true)] at eg'
                  cases eg'
                  rw [show (fAgain Sg (.untl .again z)).1 = false from eb]
                  exact iteT (k H' o8 D')
                | true =>
                  rw [if_pos eb] at eg'
                  cases em : stepN fs jm 100 (l + 1) with
                  | none => rw [em] at eg'; cases eg'
                  | some m2 =>
                    rw [em] at eg'
                    rw [show (fAgain Sg (.untl .again z)).1 = true from eb]
                    exact iteF ⟨l + 1, _, _, m2, rfl, o8, D', em, eg'⟩
        | false =>
          cases f with
          | one w =>
            have hw : headW (fmD (.one w)) = w := rfl
            rw [hw] at hin
            have eo : oneF fs jm l Sg (.one w) = if w = "no" then some (.inl ("refused", Sg)) else if w = "quit" then some (.inl ("done", Sg)) else none := rfl
            rw [eo, if_neg (fun z => hin (by rw [z]; decide +kernel)), if_neg (fun z => hin (by rw [z]; decide +kernel))] at eg'
            cases eg'
          | iff ps =>
            obtain ⟨a', y1, ea, ha1, ty1⟩ := at_2 tf7
            cases ea
            refine iteY (show headW (fmD (.iff ps)) = "if" from rfl) ?_
            have eo : oneF fs jm l Sg (.iff ps) = ((if testF Sg ps = true then some (l + 1) else jmpTo jm l).bind (stepN fs jm 100)).map fun m => .inr (m, Sg) := rfl
            rw [eo] at eg'
            refine ⟨fun v G => ∃ (b m : Nat), v = .int ((b : Int) + 1) ∧ Off x L H G ∧ DkAt G x CD dx L Sg ∧ stepN fs jm 100 b = some m ∧ goF fs jm q m Sg = some (wd, S'), ?_, ?_⟩
            · refine ⟨_, rfl, _, rfl, a, _, 1, _, rfl, rfl, ha1, atI_nat (j := 1) rfl, x, dx, L, Sg, y1, ps, rfl, D7, ty1, of_decide_eq_true okf, fun H1 z1 => ?_⟩
              refine ⟨_, rfl, ?_⟩
              have o8 := o7.trans (Off.of z1)
              have D8 := D7.same z1
              cases et : testF Sg ps with
              | true =>
                rw [if_pos et] at eg'
                have eg' : (match ((stepN fs jm 100 (l + 1)).map fun m => (.inr (m, Sg) : Sum (Str × Dk) (Nat × Dk))) with
                  | none => none
                  | some (.inl r) => some r
                  | some (.inr r) => goF fs jm q r.1 r.2) = some (wd, S') := eg'
                cases em : stepN fs jm 100 (l + 1) with
                | none => rw [em] at eg'; cases eg'
                | some m2 =>
                  rw [em] at eg'
                  exact iteT ⟨_, rfl, l + 1, m2, rfl, o8, D8, em, eg'⟩
              | false =>
                rw [if_neg (by rw [et]; exact Bool.false_ne_true)] at eg'
                cases ej : jmpTo jm l with
                | none => rw [ej] at eg'; cases eg'
                | some b =>
                  rw [ej] at eg'
                  have eg' : (match ((stepN fs jm 100 b).map fun m => (.inr (m, Sg) : Sum (Str × Dk) (Nat × Dk))) with
                    | none => none
                    | some (.inl r) => some r
                    | some (.inr r) => goF fs jm q r.1 r.2) = some (wd, S') := eg'
                  cases em : stepN fs jm 100 b with
                  | none => rw [em] at eg'; cases eg'
                  | some m2 =>
                    rw [em] at eg'
                    obtain ⟨v, hv, hb⟩ := jmp_val ej
                    have dg := DGet.k (k := Sum.inl ((l : Int) + 1)) (z1 _ _ h37)
                    rw [hv] at dg
                    exact iteF ⟨_, rfl, cx, CC, dc, _, _, rfl, z1 _ _ h17, OC.cl, OC.no "jumps" (by decide +kernel), rfl, _, rfl, ja, _, rfl, dg, b, m2, by rw [← hb], o8, D8, em, eg'⟩
            · rintro v G' ⟨b, m2, rfl, o8, D8, em, e8⟩
              exact ⟨b, Sg, _, m2, rfl, o8, D8, em, e8⟩
          | set z ts => cases hst
          | wrap z ts => cases hst
          | sealed z y => cases hst
          | write z => cases hst
          | times m ts => cases hst
          | untl m z => cases hst
      · rintro τ G' ⟨b, Sg', v5, m, rfl, oJ, DJ, em, eJ⟩
        have CJ := C.off AP oJ D
        obtain ⟨dc', t1', t2', ja', aa', z', j1, j2, j3⟩ := CJ.ex
        refine ⟨_, rfl, cx, CC, dc', _, _, rfl, j1, OC.cl, OC.no "forms" (by decide +kernel), rfl, _, rfl, cx, CC, dc', _, _, rfl, j1, OC.cl, OC.no "jumps" (by decide +kernel), rfl, _, rfl, t2', ja', b, _, jm, rfl, j2, j3, C.jo, lnD, fun m' H1 _ st _ z1 => ?_⟩
        obtain rfl : m' = m := st.one (stepN_ok em)
        exact ⟨m', Sg', _, _, _, rfl, oJ.trans (Off.of z1), DJ.same z1, eJ⟩
    · refine iteN (show ¬ (l : Int) + 1 ≤ (xs.length : Int) by omega) ?_
      have e : fs[l]? = none := List.getElem?_eq_none (by omega)
      unfold goF at eg
      rw [e] at eg
      cases eg
      exact k G oG DG
end
end IdL
namespace IdL
open PySem L2 TL
/-! ### tuples of numbers, compared -/
def tI (ns : List Int) : PyData := .tuple (ns.map PyData.int)
theorem tI_dp {K : PySem.W.Frag} {H : Hp} {p : Addr} {ns : List Int} (h : SqT K H p (ns.map V.int)) : Dp K H (.ref p) (tI ns) := .tup h (ints_dp ns)
theorem tI_eqv (a b : List Int) : PyData.eqv (tI a) (tI b) = decide (a = b) := by
  show PyData.eqvAll (a.map PyData.int) (b.map PyData.int) = _
  exact eqv_ints a b
theorem tI_shaped (ns : List Int) : SeqAt.shaped (tI ns) = true := by
  unfold SeqAt.shaped
  rw [Bool.and_eq_true]
  refine ⟨by show PyData.canLayAll0 _ = true; exact ints_lay ns, decide_eq_true ?_⟩
  have := ints_dep ns
  simp only [tI, PyData.depth]
  omega
theorem t3_shaped (a b c : List Int) : SeqAt.shaped (.tuple [tI a, tI b, tI c]) = true := by
  unfold SeqAt.shaped
  rw [Bool.and_eq_true]
  refine ⟨?_, decide_eq_true ?_⟩
  · show (PyData.canLayAll0 (a.map PyData.int) && (PyData.canLayAll0 (b.map PyData.int) && (PyData.canLayAll0 (c.map PyData.int) && true))) = true
    rw [ints_lay, ints_lay, ints_lay]; rfl
  · have h1 := ints_dep a
    have h2 := ints_dep b
    have h3 := ints_dep c
    simp only [tI, PyData.depth, PyData.depthAll]
    omega
theorem eq_tup {K : PySem.W.Frag} {H : Hp} {p q : Addr} {ms ns : List Int} (hp : SqT K H p (ms.map V.int)) (hq : SqT K H q (ns.map V.int)) {Q : VK} (k : Q (.bl (decide (ms = ns))) H) : rEqD K (.ref p) (.ref q) H Q := by
  refine ⟨tI ms, tI ns, tI_dp hp, tI_dp hq, tI_shaped ms, tI_shaped ns, ?_⟩
  rw [tI_eqv]
  exact k
theorem eq_rows {K : PySem.W.Frag} {H : Hp} {p q a b c a' b' c' : Addr} {la lb lc la' lb' lc' : List Int} (hp : SqT K H p [.ref a, .ref b, .ref c]) (hq : SqT K H q [.ref a', .ref b', .ref c'])
    (h1 : SqT K H a (la.map V.int)) (h2 : SqT K H b (lb.map V.int)) (h3 : SqT K H c (lc.map V.int)) (h4 : SqT K H a' (la'.map V.int)) (h5 : SqT K H b' (lb'.map V.int)) (h6 : SqT K H c' (lc'.map V.int)) {Q : VK} (k : Q (.bl (decide (la = la' ∧ lb = lb' ∧ lc = lc'))) H) : rEqD K (.ref p) (.ref q) H Q := by
  refine ⟨.tuple [tI la, tI lb, tI lc], .tuple [tI la', tI lb', tI lc'], .tup hp (.cons (tI_dp h1) (.cons (tI_dp h2) (.cons (tI_dp h3) .nil))), .tup hq (.cons (tI_dp h4) (.cons (tI_dp h5) (.cons (tI_dp h6) .nil))), t3_shaped _ _ _, t3_shaped _ _ _, ?_⟩
  have e : PyData.eqv (.tuple [tI la, tI lb, tI lc]) (.tuple [tI la', tI lb', tI lc']) = decide (la = la' ∧ lb = lb' ∧ lc = lc') := by
    show (PyData.eqv (tI la) (tI la') && (PyData.eqv (tI lb) (tI lb') && (PyData.eqv (tI lc) (tI lc') && true))) = _
    rw [tI_eqv, tI_eqv, tI_eqv, Bool.and_true]
    by_cases e1 : la = la' <;> by_cases e2 : lb = lb' <;> by_cases e3 : lc = lc' <;> simp [e1, e2, e3]
  rw [e]
  exact k
/-! ### the promises of a play -/
abbrev sBd : Stmt := top 77
abbrev sBp : Stmt := top 78
abbrev sPi : Stmt := inClass (top 79) 0
def NBd : List Str := ["desk", "owed", "rows", "found"]
theorem scBd : FnScope NBd ["desk", "owed"] (defScope sBd) := ⟨rfl, rfl, rfl, by decide +kernel, rfl, by decide +kernel, by decide +kernel⟩
theorem scBp : FnScope ["desk", "owed", "ended"] ["desk", "owed", "ended"] (defScope sBp) := ⟨rfl, rfl, rfl, by decide +kernel, rfl, by decide +kernel, by decide +kernel⟩
theorem scPi : FnScope ["self", "ended", "desk", "broken"] ["self", "ended", "desk", "broken"] (defScope sPi) := ⟨rfl, rfl, rfl, by decide +kernel, rfl, by decide +kernel, by decide +kernel⟩
def rowsB (S : Dk) (o : Ow) : List Str := if S.wr = o.wr ∧ S.bk = o.bk ∧ S.ag = o.ag then [] else ["rows"]
def doneB (S : Dk) (o : Ow) : List Str := if toldF S = o.fs then rowsB S o else rowsB S o ++ (["fields"] : List Str)
def brokeB (S : Dk) (ow : Option Ow) (wd : Str) : List Str := if wd = "beyond" then ["inside"] else if wd = "refused" then (if ow.isSome = true ∨ S.ch = true then ["full"] else []) else match ow with
  | none => ["full"]
  | some o => doneB S o
structure FBd (K : PySem.W.Frag) (mg : Str → Option Value) (f : Addr) (d : FuncData) : Prop where
  u : Fun K "breaks_done" "breaks_done" sBd f d
  b : Binds K d ["desk", "owed"] []
  g : mg "breaks_done" = some (.ref f)
structure FBp (K : PySem.W.Frag) (mg : Str → Option Value) (f : Addr) (d : FuncData) : Prop where
  u : Fun K "broken_promises" "broken_promises" sBp f d
  b : Binds K d ["desk", "owed", "ended"] []
  g : mg "broken_promises" = some (.ref f)
def spBd (CD CO : Addr) : Sp := fun vs H Q _ => ∃ (x dx : Addr) (L : DkL) (S : Dk) (v : V) (o : Ow), vs = [.ref x, v] ∧ DkAt H x CD dx L S ∧ OwAt H CO v o ∧ ∀ (p : Addr) H', H p = none → Same H H' → H' p = some (.lst ((doneB S o).map V.str)) → Q (.ref p) H'
def spBp (CD CO : Addr) : Sp := fun vs H Q _ => ∃ (x dx : Addr) (L : DkL) (S : Dk) (v : V) (ow : Option Ow) (wd : Str), vs = [.ref x, v, .str wd] ∧ DkAt H x CD dx L S ∧ OwV H CO v ow ∧ ∀ (p : Addr) H', Same H H' → H' p = some (.tup ((brokeB S ow wd).map V.str)) → Q (.ref p) H'
def fldPl : List Str := ["ended", "fields", "written", "back", "again", "seals", "broken"]
structure OPl (K : PySem.W.Frag) (C : Addr) : Prop where
  cl : Cls K C
  no : ∀ f ∈ fldPl, NoAttr K C f
section
variable {P : Program} {w : World} {K : PySem.W.Frag} {mg : Str → Option Value} {base : Heap}
theorem ok_bd {f fT CD CO : Addr} {fd dT : FuncData} (F : Fun K "breaks_done" "breaks_done" sBd f fd) (O : OBd K CD) (OO : OOw K CO) (TF : FTf K mg fT dT) (OTF : FnOk P w K mg base CX0 1 fT dT ["desk"] (spTf CD)) (T : Gv mg) : FnOk P w K mg base CX0 2 f fd ["desk", "owed"] (spBd CD CO) := by
  refine F.ok scBd (fun vs H Q E h => ?_) (fun cdv A outer s H vs Q E hr h => ?_)
  · obtain ⟨x, dx, L, S, v, o, rfl, _⟩ := h
    rfl
  · obtain ⟨x, dx, L, S, v, o, rfl, D, OA, k⟩ := h
    refine ⟨_, (pss_cons (ps_set (i := 2) scBd.nd rfl (.inl rfl) (pe_tup (pa_cons (pe_callTy call_tuple_of (by rfl) T.tuple (by decide +kernel) (pa_cons (pe_fld (pv 0) rfl) pa_nil)) (pa_cons (pe_callTy call_tuple_of (by rfl) T.tuple (by decide +kernel) (pa_cons (pe_fld (pv 0) rfl) pa_nil)) (pa_cons (pe_callTy call_tuple_of (by rfl) T.tuple (by decide +kernel) (pa_cons (pe_fld (pv 0) rfl) pa_nil)) pa_nil)))))
 (pss_cons (ps_set (i := 3) scBd.nd rfl (.inl rfl) (pe_cut (pe_ifExp (pt_cmpR (op_eqD hr.units) (pv 2) (pe_tup (pa_cons (pe_fld (pv 1) rfl) (pa_cons (pe_fld (pv 1) rfl) (pa_cons (pe_fld (pv 1) rfl) pa_nil)))) (nomark _)) (pe_lst pa_nil) (pe_lst (pa_cons pe_str pa_nil)))))
 (pss_one (ps_ret (pe_cut (pe_ifExp (pt_cmpR (op_eqD hr.units) (pe_call OTF hr rfl TF.g TF.u.kp TF.b .nil pass0 (pa_cons (pv 0) pa_nil)) (pe_fld (pv 1) rfl) (nomark _)) (pv 3) (pe_op op_cat (pv 3) (pe_lst (pa_cons pe_str pa_nil))))))))), ?_⟩
    obtain ⟨y, dy, a, b, c, d, rfl, hy, ga, gb, gc, gd⟩ := OA.ex
    refine ⟨_, rfl, x, CD, dx, _, _, rfl, D.ins, O.cl, O.no "written" (by decide +kernel), rfl, L.w, _, rfl, .inl ⟨SqL.of D.wr, fun t1 h1 => ?_⟩⟩
    have z1 := same_new (o := .tup (S.wr.map V.int)) h1
    have g1 := upd_at (o := .tup (S.wr.map V.int)) h1
    generalize upd H t1 (.tup (S.wr.map V.int)) = H1 at *
    have D1 := D.same z1
    refine ⟨_, rfl, x, CD, dx, _, _, rfl, D1.ins, O.cl, O.no "back" (by decide +kernel), rfl, L.b, _, rfl, .inl ⟨SqL.of D1.bk, fun t2 h2 => ?_⟩⟩
    have z2 := same_new (o := .tup (S.bk.map V.int)) h2
    have g2 := upd_at (o := .tup (S.bk.map V.int)) h2
    generalize upd H1 t2 (.tup (S.bk.map V.int)) = H2 at *
    have D2 := D1.same z2
    refine ⟨_, rfl, x, CD, dx, _, _, rfl, D2.ins, O.cl, O.no "again" (by decide +kernel), rfl, L.r, _, rfl, .inl ⟨SqL.of D2.ag, fun t3 h3 => ?_⟩⟩
    have z3 := same_new (o := .tup (S.ag.map V.int)) h3
    have g3 := upd_at (o := .tup (S.ag.map V.int)) h3
    generalize upd H2 t3 (.tup (S.ag.map V.int)) = H3 at *
    refine ⟨(by show 3 ≤ sizeLine; decide), fun t4 h4 => ?_⟩
    have z4 := same_new (o := .tup [.ref t1, .ref t2, .ref t3]) h4
    have g4 := upd_at (o := .tup [.ref t1, .ref t2, .ref t3]) h4
    generalize upd H3 t4 (.tup [.ref t1, .ref t2, .ref t3]) = H4 at *
    have s14 := z2.trans (z3.trans z4)
    have s04 := z1.trans s14
    have hy4 := s04 _ _ hy
    refine ⟨fun v G => ∃ p, v = .ref p ∧ Same H4 G ∧ H4 p = none ∧ G p = some (.lst ((rowsB S o).map V.str)), ?_, ?_⟩
    · refine ⟨_, rfl, _, rfl, y, CO, dy, _, _, rfl, hy4, OO.cl, OO.no "written" (by decide +kernel), rfl, _, rfl, y, CO, dy, _, _, rfl, hy4, OO.cl, OO.no "back" (by decide +kernel), rfl, _, rfl, y, CO, dy, _, _, rfl, hy4, OO.cl, OO.no "again" (by decide +kernel), rfl, (by show 3 ≤ sizeLine; decide), fun t5 h5 => ?_⟩
      have z5 := same_new (o := .tup [.ref a, .ref b, .ref c]) h5
      have g5 := upd_at (o := .tup [.ref a, .ref b, .ref c]) h5
      generalize upd H4 t5 (.tup [.ref a, .ref b, .ref c]) = H5 at *
      have s05 := s04.trans z5
      refine eq_rows (SqT.of (z5 _ _ g4)) (SqT.of g5) (SqT.of (z5 _ _ (s14 _ _ g1))) (SqT.of (z5 _ _ (z4 _ _ (z3 _ _ g2)))) (SqT.of (z5 _ _ (z4 _ _ g3))) (SqT.of (s05 _ _ ga)) (SqT.of (s05 _ _ gb)) (SqT.of (s05 _ _ gc)) ⟨_, rfl, ?_⟩
      unfold rowsB
      by_cases he : S.wr = o.wr ∧ S.bk = o.bk ∧ S.ag = o.ag
      · rw [if_pos he]
        refine iteY he ⟨Nat.zero_le _, fun p hp => ⟨p, rfl, z5.trans (same_new hp), z5.free hp, upd_same⟩⟩
      · rw [if_neg he]
        refine iteN he ⟨(by show 1 ≤ sizeLine; decide), fun p hp => ⟨p, rfl, z5.trans (same_new hp), z5.free hp, upd_same⟩⟩
    rintro v G ⟨p, rfl, z5, fp, gp⟩
    have s0G := s04.trans z5
    refine ⟨fun v G' => ∃ q, v = .ref q ∧ Same H G' ∧ H q = none ∧ G' q = some (.lst ((doneB S o).map V.str)), ?_, ?_⟩
    · refine ⟨_, rfl, x, dx, L, S, rfl, D.same s0G, fun q H6 hq z6 g6 => ?_⟩
      have hy6 := z6 _ _ (s0G _ _ hy)
      refine ⟨_, rfl, y, CO, dy, _, _, rfl, hy6, OO.cl, OO.no "fields" (by decide +kernel), rfl, ?_⟩
      refine eq_tup (SqT.of g6) (SqT.of (z6 _ _ (s0G _ _ gd))) ⟨_, rfl, ?_⟩
      have s06 := s0G.trans z6
      unfold doneB
      by_cases he : toldF S = o.fs
      · rw [if_pos he]
        exact iteY he ⟨_, rfl, p, rfl, s06, s04.free fp, z6 _ _ gp⟩
      · rw [if_neg he]
        refine iteN he ⟨_, rfl, (by show 1 ≤ sizeLine; decide), fun r hr' => ?_⟩
        have z7 := same_new (o := .lst [.str "fields"]) hr'
        have g7 := upd_at (o := .lst [.str "fields"]) hr'
        generalize upd H6 r (.lst [.str "fields"]) = H7 at *
        have s07 := s06.trans z7
        refine ⟨p, r, _, _, rfl, rfl, z7 _ _ (z6 _ _ gp), g7, (by rw [List.length_map, sizeLine_eq]; unfold rowsB; split <;> decide), fun u hu2 => ⟨u, rfl, s07.trans (same_new hu2), s07.free hu2, ?_⟩⟩
        rw [upd_same, List.map_append]; rfl
    · rintro v G' ⟨q, rfl, s, fq, gq⟩
      exact k q G' fq s gq
theorem ok_bp {f fB CD CO : Addr} {fd dB : FuncData} (F : Fun K "broken_promises" "broken_promises" sBp f fd) (O : OBd K CD) (BD : FBd K mg fB dB) (OBD : FnOk P w K mg base CX0 2 fB dB ["desk", "owed"] (spBd CD CO)) (T : Gv mg) : FnOk P w K mg base CX0 3 f fd ["desk", "owed", "ended"] (spBp CD CO) := by
  refine F.ok scBp (fun vs H Q E h => ?_) (fun cdv A outer s H vs Q E hr h => ?_)
  · obtain ⟨x, dx, L, S, v, ow, wd, rfl, _⟩ := h
    rfl
  · obtain ⟨x, dx, L, S, v, ow, wd, rfl, D, OA, k⟩ := h
    refine ⟨_, (pss_cons (ps_if (pt_cmpR op_eq (pv 2) pe_str (nomark _)) (pss_one (ps_ret (pe_tup (pa_cons pe_str pa_nil)))) pss_nil)
 (pss_cons (ps_if (pt_cmpR op_eq (pv 2) pe_str (nomark _)) (pss_one (ps_ret (pe_cut (pe_ifExp (PW.pt (pw_or (pt_cmpR op_notN (pv 1) pe_non (nomark _)) (pw_or1 (pt_val (pe_fld (pv 0) rfl))))) (pe_tup (pa_cons pe_str pa_nil)) (pe_tup pa_nil))))) pss_nil)
 (pss_one (ps_ret (pe_cut (pe_ifExp (pt_cmpR op_isN (pv 1) pe_non (nomark _)) (pe_tup (pa_cons pe_str pa_nil)) (pe_callTy call_tuple_of (by rfl) T.tuple (by decide +kernel) (pa_cons (pe_call OBD hr rfl BD.g BD.u.kp BD.b .nil pass0 (pa_cons (pv 0) (pa_cons (pv 1) pa_nil))) pa_nil)))))))), ?_⟩
    unfold brokeB at k
    refine ⟨_, rfl, rfl, _, rfl, ?_⟩
    by_cases h1 : wd = "beyond"
    · rw [if_pos h1] at k
      exact iteY (show V.str wd = V.str "beyond" from by rw [h1]) ⟨by show 1 ≤ sizeLine; decide, fun p hp => k p _ (same_new hp) upd_same⟩
    rw [if_neg h1] at k
    refine iteN (show ¬ V.str wd = V.str "beyond" from fun z => h1 (V.str.inj z)) ?_
    refine ⟨_, rfl, rfl, _, rfl, ?_⟩
    by_cases h2 : wd = "refused"
    · rw [if_pos h2] at k
      refine iteY (show V.str wd = V.str "refused" from by rw [h2]) ?_
      refine ⟨fun u G => ∃ p, u = .ref p ∧ Same H G ∧ G p = some (.tup ((if ow.isSome = true ∨ S.ch = true then (["full"] : List Str) else []).map V.str)), ?_, ?_⟩
      · cases ow with
        | none =>
          cases (show v = .non from OA)
          refine ⟨_, rfl, rfl, _, rfl, iteNS rfl ?_⟩
          refine ⟨_, rfl, x, CD, dx, _, _, rfl, D.ins, O.cl, O.no "is_changed" (by decide +kernel), rfl, _, rfl, ?_⟩
          cases ec : S.ch with
          | true => exact iteT ⟨by show 1 ≤ sizeLine; decide, fun p hp => ⟨p, rfl, same_new hp, by rw [if_pos (.inr rfl)]; exact upd_same⟩⟩
          | false => exact iteF ⟨Nat.zero_le _, fun p hp => ⟨p, rfl, same_new hp, by rw [if_neg (by simp)]; exact upd_same⟩⟩
        | some o =>
          obtain ⟨y, dy, a, b, c, d, e, rr⟩ := OA.ex
          subst e
          refine ⟨_, rfl, rfl, _, rfl, iteNN (fun z => nomatch z) ⟨by show 1 ≤ sizeLine; decide, fun p hp => ⟨p, rfl, same_new hp, by rw [if_pos (.inl rfl)]; exact upd_same⟩⟩⟩
      · rintro u G ⟨p, rfl, sG, gp⟩
        exact k p G sG gp
    rw [if_neg h2] at k
    refine iteN (show ¬ V.str wd = V.str "refused" from fun z => h2 (V.str.inj z)) ?_
    refine ⟨fun u G => Q u G, ?_, fun u G q => q⟩
    cases ow with
    | none =>
      cases (show v = .non from OA)
      refine ⟨_, rfl, rfl, _, rfl, iteT ⟨by show 1 ≤ sizeLine; decide, fun p hp => k p _ (same_new hp) upd_same⟩⟩
    | some o =>
      obtain ⟨y, dy, a, b, c, d, e, rr⟩ := OA.ex
      subst e
      refine ⟨_, rfl, rfl, _, rfl, iteF ?_⟩
      refine ⟨_, rfl, _, rfl, x, dx, L, S, .ref y, o, rfl, D, OA, fun p H1 hp z1 g1 => ⟨p, _, rfl, .inl ⟨SqL.of g1, fun t ht => k t _ (z1.trans (same_new ht)) upd_same⟩⟩⟩
end
end IdL
namespace IdL
open PySem L2 TL
/-! ### the play's object -/
def plF (wd : Str) (a b c d e f : Addr) : List (Str × V) := [("ended", .str wd), ("fields", .ref a), ("written", .ref b), ("back", .ref c), ("again", .ref d), ("seals", .ref e), ("broken", .ref f)]
structure PlAt (H : Hp) (px CP : Addr) (wd : Str) (S : Dk) (br : List Str) : Prop where
  ex : ∃ dx a b c d e f : Addr, H px = some (.ins CP dx (plF wd a b c d e f)) ∧ H a = some (.tup ((toldF S).map V.int)) ∧ H b = some (.tup (S.wr.map V.int)) ∧ H c = some (.tup (S.bk.map V.int)) ∧ H d = some (.tup (S.ag.map V.int)) ∧ H e = some (.dK (sealK S.se)) ∧ H f = some (.tup (br.map V.str))
theorem PlAt.same {H H' : Hp} {px CP : Addr} {wd : Str} {S : Dk} {br : List Str} (h : PlAt H px CP wd S br) (s : Same H H') : PlAt H' px CP wd S br := by
  obtain ⟨dx, a, b, c, d, e, f, h1, h2, h3, h4, h5, h6, h7⟩ := h.ex
  exact ⟨dx, a, b, c, d, e, f, s _ _ h1, s _ _ h2, s _ _ h3, s _ _ h4, s _ _ h5, s _ _ h6, s _ _ h7⟩
theorem DkAt.kpx {H G : Hp} {x CD dx px CP dp : Addr} {L : DkL} {S : Dk} (D : DkAt H x CD dx L S) (hp : H px = some (.ins CP dp [])) (kk : ∀ a o, a ≠ px → H a = some o → G a = some o) : DkAt G x CD dx L S :=
  ⟨kk _ _ (ne_of D.ins hp (fun z => by have := (HO.ins.inj z).2.2; cases this)) D.ins, kk _ _ (ne_of D.nm hp (fun z => nomatch z)) D.nm, kk _ _ (ne_of D.se hp (fun z => nomatch z)) D.se, kk _ _ (ne_of D.wr hp (fun z => nomatch z)) D.wr, kk _ _ (ne_of D.bk hp (fun z => nomatch z)) D.bk, kk _ _ (ne_of D.ag hp (fun z => nomatch z)) D.ag, D.ns, D.wb, D.wg, D.bg⟩
def spPi (CP CD : Addr) : Sp := fun vs H Q _ => ∃ (px dp x dx br : Addr) (wd : Str) (L : DkL) (S : Dk) (bs : List Str), vs = [.ref px, .str wd, .ref x, .ref br] ∧ H px = some (.ins CP dp []) ∧ DkAt H x CD dx L S ∧ H br = some (.tup (bs.map V.str)) ∧
  ∀ H', (∀ a o, a ≠ px → H a = some o → H' a = some o) → PlAt H' px CP wd S bs → Q .non H'
section
variable {P : Program} {w : World} {K : PySem.W.Frag} {mg : Str → Option Value} {base : Heap}
theorem ok_pi {f fT CP CD : Addr} {fd dT : FuncData} (F : Fun K "__init__" "BookPlay.__init__" sPi f fd) (OP : OPl K CP) (O : OBd K CD) (TF : FTf K mg fT dT) (OTF : FnOk P w K mg base CX0 1 fT dT ["desk"] (spTf CD)) (T : Gv mg) : FnOk P w K mg base CX0 2 f fd ["self", "ended", "desk", "broken"] (spPi CP CD) := by
  refine F.ok scPi (fun vs H Q E h => ?_) (fun cdv A outer s H vs Q E hr h => ?_)
  · obtain ⟨px, dp, x, dx, br, wd, L, S, bs, rfl, _⟩ := h
    rfl
  · obtain ⟨px, dp, x, dx, br, wd, L, S, bs, rfl, hp, D, hb, k⟩ := h
    refine ⟨_, (pss_cons (ps_fld (pv 0) (pv 1) rfl)
 (pss_cons (ps_fld (pv 0) (pe_call OTF hr rfl TF.g TF.u.kp TF.b .nil pass0 (pa_cons (pv 2) pa_nil)) rfl)
 (pss_cons (ps_fld (pv 0) (pe_callTy call_tuple_of (by rfl) T.tuple (by decide +kernel) (pa_cons (pe_fld (pv 2) rfl) pa_nil)) rfl)
 (pss_cons (ps_fld (pv 0) (pe_callTy call_tuple_of (by rfl) T.tuple (by decide +kernel) (pa_cons (pe_fld (pv 2) rfl) pa_nil)) rfl)
 (pss_cons (ps_fld (pv 0) (pe_callTy call_tuple_of (by rfl) T.tuple (by decide +kernel) (pa_cons (pe_fld (pv 2) rfl) pa_nil)) rfl)
 (pss_cons (ps_fld (pv 0) (pe_callTy call_dictD (by rfl) T.dict (by decide +kernel) (pa_cons (pe_fld (pv 2) rfl) pa_nil)) rfl)
 (pss_one (ps_fld (pv 0) (pv 3) rfl)))))))), ?_⟩
    have A0 : AtF H H px CP dp [] := ⟨fun _ _ _ e => e, hp⟩
    refine ⟨_, rfl, _, rfl, px, CP, dp, [], rfl, hp, OP.cl, OP.no "ended" (by decide +kernel), by decide, ?_⟩
    have A1 := A0.put (f := "ended") (v := .str wd) (fs' := [("ended", .str wd)]) rfl
    generalize upd H px _ = G1 at *
    refine ⟨_, rfl, x, dx, L, S, rfl, D.kpx hp A1.kp, fun ta H2 hta z2 ga => ?_⟩
    have A2' := A1.same z2
    obtain ⟨nta, _⟩ := A1.free hta
    refine ⟨_, rfl, px, CP, dp, _, rfl, A2'.at_, OP.cl, OP.no "fields" (by decide +kernel), (by show 1 < 1000; decide), ?_⟩
    have A2 := A2'.put (f := "fields") (v := .ref ta) (fs' := [("ended", .str wd), ("fields", .ref ta)]) (by kernel_rfl)
    have a2 := (upd_ne (o := .ins CP dp (putF "fields" (.ref ta) [("ended", .str wd)])) nta).trans ga
    generalize upd H2 px _ = G2 at *
    have D2 := D.kpx hp A2.kp
    refine ⟨_, rfl, x, CD, dx, _, _, rfl, D2.ins, O.cl, O.no "written" (by decide +kernel), rfl, L.w, _, rfl, .inl ⟨SqL.of D2.wr, fun tb htb => ?_⟩⟩
    obtain ⟨ntb, _⟩ := A2.free htb
    have z3 := same_new (o := .tup (S.wr.map V.int)) htb
    have gb := upd_at (o := .tup (S.wr.map V.int)) htb
    have A3' := A2.same z3
    have a3' := z3 _ _ a2
    generalize upd G2 tb (.tup (S.wr.map V.int)) = H3 at *
    refine ⟨_, rfl, px, CP, dp, _, rfl, A3'.at_, OP.cl, OP.no "written" (by decide +kernel), (by show 2 < 1000; decide), ?_⟩
    have A3 := A3'.put (f := "written") (v := .ref tb) (fs' := [("ended", .str wd), ("fields", .ref ta), ("written", .ref tb)]) (by kernel_rfl)
    have a3 := (upd_ne (o := .ins CP dp (putF "written" (.ref tb) [("ended", .str wd), ("fields", .ref ta)])) nta).trans a3'
    have b3 := (upd_ne (o := .ins CP dp (putF "written" (.ref tb) [("ended", .str wd), ("fields", .ref ta)])) ntb).trans gb
    generalize upd H3 px _ = G3 at *
    have D3 := D.kpx hp A3.kp
    refine ⟨_, rfl, x, CD, dx, _, _, rfl, D3.ins, O.cl, O.no "back" (by decide +kernel), rfl, L.b, _, rfl, .inl ⟨SqL.of D3.bk, fun tc htc => ?_⟩⟩
    obtain ⟨ntc, _⟩ := A3.free htc
    have z4 := same_new (o := .tup (S.bk.map V.int)) htc
    have gc := upd_at (o := .tup (S.bk.map V.int)) htc
    have A4' := A3.same z4
    have a4' := z4 _ _ a3
    have b4' := z4 _ _ b3
    generalize upd G3 tc (.tup (S.bk.map V.int)) = H4 at *
    refine ⟨_, rfl, px, CP, dp, _, rfl, A4'.at_, OP.cl, OP.no "back" (by decide +kernel), (by show 3 < 1000; decide), ?_⟩
    have A4 := A4'.put (f := "back") (v := .ref tc) (fs' := [("ended", .str wd), ("fields", .ref ta), ("written", .ref tb), ("back", .ref tc)]) (by kernel_rfl)
    have a4 := (upd_ne (o := .ins CP dp (putF "back" (.ref tc) [("ended", .str wd), ("fields", .ref ta), ("written", .ref tb)])) nta).trans a4'
    have b4 := (upd_ne (o := .ins CP dp (putF "back" (.ref tc) [("ended", .str wd), ("fields", .ref ta), ("written", .ref tb)])) ntb).trans b4'
    have c4 := (upd_ne (o := .ins CP dp (putF "back" (.ref tc) [("ended", .str wd), ("fields", .ref ta), ("written", .ref tb)])) ntc).trans gc
    generalize upd H4 px _ = G4 at *
    have D4 := D.kpx hp A4.kp
    refine ⟨_, rfl, x, CD, dx, _, _, rfl, D4.ins, O.cl, O.no "again" (by decide +kernel), rfl, L.r, _, rfl, .inl ⟨SqL.of D4.ag, fun td htd => ?_⟩⟩
    obtain ⟨ntd, _⟩ := A4.free htd
    have z5 := same_new (o := .tup (S.ag.map V.int)) htd
    have gd := upd_at (o := .tup (S.ag.map V.int)) htd
    have A5' := A4.same z5
    have a5' := z5 _ _ a4
    have b5' := z5 _ _ b4
    have c5' := z5 _ _ c4
    generalize upd G4 td (.tup (S.ag.map V.int)) = H5 at *
    refine ⟨_, rfl, px, CP, dp, _, rfl, A5'.at_, OP.cl, OP.no "again" (by decide +kernel), (by show 4 < 1000; decide), ?_⟩
    have A5 := A5'.put (f := "again") (v := .ref td) (fs' := [("ended", .str wd), ("fields", .ref ta), ("written", .ref tb), ("back", .ref tc), ("again", .ref td)]) (by kernel_rfl)
    have a5 := (upd_ne (o := .ins CP dp (putF "again" (.ref td) [("ended", .str wd), ("fields", .ref ta), ("written", .ref tb), ("back", .ref tc)])) nta).trans a5'
    have b5 := (upd_ne (o := .ins CP dp (putF "again" (.ref td) [("ended", .str wd), ("fields", .ref ta), ("written", .ref tb), ("back", .ref tc)])) ntb).trans b5'
    have c5 := (upd_ne (o := .ins CP dp (putF "again" (.ref td) [("ended", .str wd), ("fields", .ref ta), ("written", .ref tb), ("back", .ref tc)])) ntc).trans c5'
    have d5 := (upd_ne (o := .ins CP dp (putF "again" (.ref td) [("ended", .str wd), ("fields", .ref ta), ("written", .ref tb), ("back", .ref tc)])) ntd).trans gd
    generalize upd H5 px _ = G5 at *
    have D5 := D.kpx hp A5.kp
    refine ⟨_, rfl, x, CD, dx, _, _, rfl, D5.ins, O.cl, O.no "seals" (by decide +kernel), rfl, L.s, _, rfl, .inl D5.se, fun te hte => ?_⟩
    obtain ⟨nte, _⟩ := A5.free hte
    have z6 := same_new (o := .dK (sealK S.se)) hte
    have ge := upd_at (o := .dK (sealK S.se)) hte
    have A6' := A5.same z6
    refine ⟨_, rfl, px, CP, dp, _, rfl, A6'.at_, OP.cl, OP.no "seals" (by decide +kernel), (by show 5 < 1000; decide), ?_⟩
    have A6 := A6'.put (f := "seals") (v := .ref te) (fs' := [("ended", .str wd), ("fields", .ref ta), ("written", .ref tb), ("back", .ref tc), ("again", .ref td), ("seals", .ref te)]) (by kernel_rfl)
    refine ⟨_, rfl, _, rfl, px, CP, dp, _, rfl, A6.at_, OP.cl, OP.no "broken" (by decide +kernel), (by show 6 < 1000; decide), ?_⟩
    have A7 := A6.put (f := "broken") (v := .ref br) (fs' := plF wd ta tb tc td te br) (by kernel_rfl)
    have nbr : br ≠ px := ne_of hb hp (fun z => nomatch z)
    refine k _ A7.kp ⟨dp, ta, tb, tc, td, te, br, A7.at_, ?_, ?_, ?_, ?_, ?_, A7.kp _ _ nbr hb⟩
    · exact (upd_ne nta).trans ((upd_ne nta).trans (z6 _ _ a5))
    · exact (upd_ne ntb).trans ((upd_ne ntb).trans (z6 _ _ b5))
    · exact (upd_ne ntc).trans ((upd_ne ntc).trans (z6 _ _ c5))
    · exact (upd_ne ntd).trans ((upd_ne ntd).trans (z6 _ _ d5))
    · exact (upd_ne nte).trans ((upd_ne nte).trans ge)
end
end IdL
namespace IdL
open PySem L2 TL
/-! ### a case is played -/
abbrev sPbk : Stmt := top 80
def NPbk : List Str := ["code", "case", "keep", "desk", "ended"]
theorem scPb2 : FnScope NPbk ["code", "case"] (defScope sPbk) := ⟨rfl, rfl, rfl, by decide +kernel, rfl, by decide +kernel, by decide +kernel⟩
def begS (c : Cs) (kp : Int) : Dk := ⟨c.sz, beginN c.sz kp c.pl (c.dn.sum + c.ow) c.mo.sum c.ow ((c.pl - c.ow) % c.sz), sealsC c, [], [], [], false⟩
/-- how a case ends: its word, the desk then, the promises broken -/
def PlayP (fs : List Fm) (jm : List (Key × V)) (kd : Str) (c : Cs) (kp : Int) (wd : Str) (S : Dk) (br : List Str) : Prop :=
  ∃ l0 n, stepN fs jm 100 0 = some l0 ∧ goF fs jm n l0 (begS c kp) = some (wd, S) ∧ br = brokeB S (owedC kd c kp) wd
def spPbk (K : PySem.W.Frag) (CC CR CP : Addr) : Sp := fun vs H Q _ => ∃ (cx rx : Addr) (kd z : Str) (fs : List Fm) (jm : List (Key × V)) (t m : Int) (cv : V) (c : Cs) (wd : Str) (S : Dk) (br : List Str), vs = [.ref cx, cv] ∧ CdP K H cx CC kd (.ref rx) fs jm ∧ RulAt H rx CR z t m ∧ CsAt K H cv c ∧ CsOk t m kd c ∧ CsS c ∧
  PlayP fs jm kd c (t * c.sz + m) wd S br ∧ ∀ (px : Addr) H', Same H H' → PlAt H' px CP wd S br → Q (.ref px) H'
section
variable {P : Program} {w : World} {K : PySem.W.Frag} {mg : Str → Option Value} {base : Heap}
theorem ok_pbk {f fBC fKr fFO fSO fD fPF fOB fBP fP CC CR CD CO CP CB iB : Addr} {fd dBC dKr dFO dSO dD dPF dOB dBP dP : FuncData} (F : Fun K "play_book" "play_book" sPbk f fd) (OC : OCd K CC) (OBK : OBk K CR)
    (BC : FBc K mg fBC dBC) (OBC : FnOk P w K mg base (CX P w) 6 fBC dBC ["rules", "kind", "case"] (spBc K CR)) (MK : Meth K CR "kept_rows" fKr) (bK : Binds K dKr ["self", "size"] []) (OK : FnOk P w K mg base (CX P w) 4 fKr dKr ["self", "size"] (spKr CR))
    (FO : FFo K mg fFO dFO) (OFO : FnOk P w K mg base CX0 1 fFO dFO ["case"] (spFo K)) (SO : FSo K mg fSO dSO) (OSO : FnOk P w K mg base CX0 1 fSO dSO ["case"] (spSo K))
    (MD : Mk K CD fD) (bD : Binds K dD ["self", "size", "keep", "fields", "seals"] []) (OD : FnOk P w K mg base CX0 1 fD dD ["self", "size", "keep", "fields", "seals"] (spBi K CD)) (gD : mg "BookDesk" = some (.ref CD))
    (PF : FPf K mg fPF dPF) (OPF : FnOk P w K mg base CX0 5 fPF dPF ["code", "desk"] (spPf K CC CD)) (OB : FOb K mg fOB dOB) (OOB : FnOk P w K mg base CX0 4 fOB dOB ["kind", "case", "keep"] (spOb K CO))
    (BP : FBp K mg fBP dBP) (OBP : FnOk P w K mg base CX0 3 fBP dBP ["desk", "owed", "ended"] (spBp CD CO)) (MP : Mk K CP fP) (bP : Binds K dP ["self", "ended", "desk", "broken"] []) (OP : FnOk P w K mg base CX0 2 fP dP ["self", "ended", "desk", "broken"] (spPi CP CD)) (gP : mg "BookPlay" = some (.ref CP))
    (BC2 : BErr P K mg "BadCase" "BadCase.__init__" (inClass (top 24) 0) ["case"] CB iB) (su : mg "super" = none) : FnOk P w K mg base (CX P w) 7 f fd ["code", "case"] (spPbk K CC CR CP) := by
  refine F.okX scPb2 (fun vs H Q E h => ?_) (fun cdv A outer s H vs Q E hr h => ?_)
  · obtain ⟨cx, rx, kd, z, fs, jm, t, m, cv, c, wd, S, br, rfl, _⟩ := h
    rfl
  · obtain ⟨cx, rx, kd, z, fs, jm, t, m, cv, c, wd, S, br, rfl, C, RA, CA, CO1, CS, ⟨l0, n, e0, eg, ebr⟩, k⟩ := h
    have hr1 := hr.mono (show 1 ≤ 6 by decide)
    have hr2 := hr.mono (show 2 ≤ 6 by decide)
    have hr3 := hr.mono (show 3 ≤ 6 by decide)
    have hr4 := hr.mono (show 4 ≤ 6 by decide)
    have hr5 := hr.mono (show 5 ≤ 6 by decide)
    have hr6 := hr
    refine ⟨_, (pss_cons (ps_if (pt_not (pt_val (pe_call OBC hr6 rfl BC.g BC.u.kp BC.b .nil (passes_call (takes_of rfl rfl rfl rfl) fun _ _ _ _ z => z) (pa_cons (pe_fld (pv 0) rfl) (pa_cons (pe_fld (pv 0) rfl) (pa_cons (pv 1) pa_nil)))))) (pss_one (ps_raise rfl (takes_of rfl rfl rfl rfl) (pmk_err BC2.T BC2.F (by decide) BC2.g su hr (pa_cons (pv 1) pa_nil)))) pss_nil)
 (pss_cons (ps_set (i := 2) scPb2.nd rfl (.inl rfl) (pe_meth (pe_fld (pv 0) rfl) OBK.cl MK OK hr4 bK .nil (passes_call (takes_of rfl rfl rfl rfl) fun _ _ _ _ z => z) (pa_cons (pe_ix ix_tup (pv 1) pe_int (fun _ _ => rfl)) pa_nil)))
 (pss_cons (ps_set (i := 3) scPb2.nd rfl (.inl rfl) (pe_make MD OD hr2 rfl gD bD .nil pass0 (pa_cons (pe_ix ix_tup (pv 1) pe_int (fun _ _ => rfl)) (pa_cons (pv 2) (pa_cons (pe_call OFO hr1 rfl FO.g FO.u.kp FO.b .nil pass0 (pa_cons (pv 1) pa_nil)) (pa_cons (pe_call OSO hr1 rfl SO.g SO.u.kp SO.b .nil pass0 (pa_cons (pv 1) pa_nil)) pa_nil))))))
 (pss_cons (ps_set (i := 4) scPb2.nd rfl (.inl rfl) (pe_call OPF hr5 rfl PF.g PF.u.kp PF.b .nil pass0 (pa_cons (pv 0) (pa_cons (pv 3) pa_nil))))
 (pss_one (ps_ret (pe_make MP OP hr3 rfl gP bP .nil pass0 (pa_cons (pv 4) (pa_cons (pv 3) (pa_cons (pe_call OBP hr3 rfl BP.g BP.u.kp BP.b .nil pass0 (pa_cons (pv 3) (pa_cons (pe_call OOB hr4 rfl OB.g OB.u.kp OB.b .nil pass0 (pa_cons (pe_fld (pv 0) rfl) (pa_cons (pv 1) (pa_cons (pv 2) pa_nil)))) (pa_cons (pv 4) pa_nil)))) pa_nil)))))))))), ?_⟩
    obtain ⟨dc, t1, t2, ja, aa, zt, h1, h2, h3⟩ := C.ex
    refine ⟨_, rfl, cx, CC, dc, _, _, rfl, h1, OC.cl, OC.no "rules" (by decide +kernel), rfl, _, rfl, cx, CC, dc, _, _, rfl, h1, OC.cl, OC.no "kind" (by decide +kernel), rfl, _, rfl, rx, kd, z, t, m, cv, c, rfl, RA, CA, CO1, fun H1 z1 => ⟨_, rfl, iteF ?_⟩⟩
    have CA1 := CA.keep (KeepT.of z1)
    obtain ⟨p, d, mm, rfl, q1, q2, q3⟩ := CA1.ex
    obtain ⟨dr, hrx⟩ := RA
    refine ⟨_, rfl, cx, CC, dc, _, _, rfl, z1 _ _ h1, OC.cl, OC.no "rules" (by decide +kernel), rfl, rx, dr, _, rfl, z1 _ _ hrx, rfl, _, rfl, p, _, 0, _, rfl, rfl, q1, atI_nat (j := 0) rfl, rx, c.sz, z, t, m, rfl, ⟨dr, z1 _ _ hrx⟩, CO1.s1, CO1.t0, CO1.t1, ?_⟩
    refine ⟨_, rfl, p, _, 0, _, rfl, rfl, q1, atI_nat (j := 0) rfl, _, rfl, _, rfl, .ref p, c, rfl, CA1, CO1.s1, fun fa H2 hfa z2 gfa => ?_⟩
    refine ⟨_, rfl, .ref p, c, rfl, CA1.keep (KeepT.of z2), CO1.s1, CO1.ld, CO1.lm, fun sa H3 hsa z3 gsa => ?_⟩
    intro x dx hx hdx ndx
    have zN : Same H3 (upd (upd H3 dx (.own x)) x (.ins CD dx [])) := fun a o e => by
      rw [upd_ne (fun z => by rw [z, hx] at e; cases e), upd_ne (fun z => by rw [z, hdx] at e; cases e)]
      exact e
    have gX : upd (upd H3 dx (.own x)) x (.ins CD dx []) x = some (.ins CD dx []) := upd_same
    have z03 : Same H H3 := z1.trans (z2.trans z3)
    have hcx3 := z03 _ _ h1
    have hja3 := z03 _ _ h3
    refine ⟨x, dx, fa, sa, c.sz, t * c.sz + m, c.pl, c.dn.sum + c.ow, c.mo.sum, c.ow, (c.pl - c.ow) % c.sz, sealsC c, rfl, gX, SqT.of (zN _ _ (z3 _ _ gfa)), zN _ _ gsa, fun L H4 kk n1 n2 n3 n4 n5 DA => ⟨rfl, ?_⟩⟩
    have DA : DkAt H4 x CD dx L (begS c (t * c.sz + m)) := DA
    generalize upd (upd H3 dx (.own x)) x (.ins CD dx []) = Hx at *
    have z34 : Same H3 H4 := fun a o e => kk a o (fun z => by rw [z, hx] at e; cases e) (zN a o e)
    have z04 := z03.trans z34
    have ncx : cx ≠ x := ne_of_none hcx3 hx
    have AP : Apart H4 cx CC x L := ⟨ncx, fun dx' t1' t2' ja' aa' kv' rv' z' e => by
      rw [z34 _ _ hcx3] at e
      have e3 := (HO.ins.inj (Option.some.inj e)).2.2
      have e4 : V.ref ja = V.ref ja' := by
        have := congrArg (fun l : List (Str × V) => (l[5]?).map (·.2)) e3
        exact Option.some.inj this
      cases e4
      exact ⟨ne_of_none (zN _ _ hja3) n1, ne_of_none (zN _ _ hja3) n2⟩⟩
    have C4 : CdP K H4 cx CC kd (.ref rx) fs jm := ⟨⟨dc, t1, t2, ja, aa, zt, z34 _ _ hcx3, h2.keep (KeepT.of z04), z34 _ _ hja3⟩, C.jo, C.ln, C.ok⟩
    refine ⟨_, rfl, _, rfl, cx, x, dx, kd, .ref rx, fs, jm, L, begS c (t * c.sz + m), S, wd, l0, n, rfl, C4, AP, DA, e0, eg, fun H5 o5 D5 => ?_⟩
    have z05 : Same H H5 := fun a o e => by
      have ex := zN a o (z03 a o e)
      exact o5 a o (ne_of_none (z03 a o e) hx) (ne_of_none ex n1) (ne_of_none ex n2) (ne_of_none ex n3) (ne_of_none ex n4) (ne_of_none ex n5) (z04 a o e)
    have CA5 := CA.keep (KeepT.of z05)
    refine ⟨_, rfl, _, rfl, _, rfl, _, rfl, cx, CC, dc, _, _, rfl, z05 _ _ h1, OC.cl, OC.no "kind" (by decide +kernel), rfl, _, rfl, _, rfl, kd, .ref p, c, t * c.sz + m, rfl, CA5, CS, fun v H6 z6 OV => ?_⟩
    have D6 := D5.same z6
    refine ⟨_, rfl, x, dx, L, S, v, owedC kd c (t * c.sz + m), wd, rfl, D6, OV, fun bp H7 z7 g7 => ?_⟩
    have D7 := D6.same z7
    have z07 := z05.trans (z6.trans z7)
    intro px dp hpx hdp ndp
    have zP : Same H7 (upd (upd H7 dp (.own px)) px (.ins CP dp [])) := fun a o e => by
      rw [upd_ne (fun z => by rw [z, hpx] at e; cases e), upd_ne (fun z => by rw [z, hdp] at e; cases e)]
      exact e
    refine ⟨px, dp, x, dx, bp, wd, L, S, _, rfl, upd_same, D7.same zP, zP _ _ g7, fun H8 k8 PL => ⟨rfl, ?_⟩⟩
    have z78 : Same H7 H8 := fun a o e => k8 a o (fun z => by rw [z, hpx] at e; cases e) (zP a o e)
    rw [← ebr] at PL
    exact k px H8 (z07.trans z78) PL
end
end IdL
namespace IdL
open PySem L2 TL
/-! ### a book code is made, its fields known -/
def CdFl (K : PySem.W.Frag) (H : Hp) (x C : Addr) (kd : Str) (rv : V) (z : Str) (ds : List PyData) (jmp : List (Key × V)) : Prop := ∃ dx t1 t2 ja aa, H x = some (.ins C dx (cdF (.str kd) rv z t1 t2 ja aa)) ∧ FormsT K H t2 ds ∧ H ja = some (.dK jmp)
def spInitF (K : PySem.W.Frag) (CC : Addr) : Sp := fun vs H Q _ => ∃ (x dx : Addr) (kd : Str) (rv : V) (z : Str) (rs : List Str) (ds : List PyData) (jmp : List (Key × V)), vs = [.ref x, .str kd, rv, .str z] ∧ kd ∈ kindsB ∧ H x = some (.ins CC dx []) ∧ z.length ≤ 900000 ∧ Rows (linesOf z) ∧ codeM bookD 30 6 z = .ok rs ds jmp ∧ LeastP kd ds jmp none ∧
  ∀ H', (∀ a o, a ≠ x → H a = some o → H' a = some o) → CdFl K H' x CC kd rv z ds jmp → Q .non H'
theorem least_none {kd : Str} {ds : List PyData} {jmp : List (Key × V)} {r : Option Nat} (h : LeastP kd ds jmp none) (k : LeastP kd ds jmp r) : r = none := by
  cases r with
  | none => rfl
  | some n => exact absurd k.1 (h n)
section
variable {P : Program} {w : World} {K : PySem.W.Frag} {mg : Str → Option Value} {base : Heap}
theorem ok_initF {f fC fL CC CL CT CR CK iR iK : Addr} {fd dC dL : FuncData} (F : Fun K "__init__" "BookCode.__init__" sInit f fd) (C : FCode K mg fC dC) (L : FLeast K mg fL dL) (OC : FnOk P w K mg base (CX P w) 7 fC dC ["text", "read_line", "most_lines", "most_ifs"] (spCode P w K mg base 5 CL CT)) (OL : FnOk P w K mg base CX0 3 fL dL ["kind", "forms", "jumps"] (spLeast K))
    (BR : BErr P K mg "Refused" "Refused.__init__" stRef ["line"] CR iR) (BK : BErr P K mg "BadKind" "BadKind.__init__" stKind ["kind"] CK iK) (su : mg "super" = none) (T : Glo mg) (G : GloC P w K mg base) (O : OCd K CC) :
    FnOk P w K mg base (CX P w) 8 f fd ["self", "kind", "rules", "text"] (spInitF K CC) := by
  obtain ⟨kp, gK, tK⟩ := G.kinds
  obtain ⟨t1, gL⟩ := G.lines
  obtain ⟨t2, gI⟩ := G.ifs
  obtain ⟨fr, gR, D⟩ := G.rdr
  refine F.okX scInit (fun vs H Q E h => ?_) (fun cdv A outer s H vs Q E hr h => ?_)
  · obtain ⟨x, dx, kd, rv, z, rs, ds, jmp, rfl, _⟩ := h
    rfl
  · obtain ⟨x, dx, kd, rv, z, rs0, ds0, jmp0, rfl, hkd, hx, hz, ro, ec, lst, kend⟩ := h
    have hr3 := hr.mono (show 3 ≤ 7 by decide)
    refine ⟨_, (pss_cons (ps_if (pt_cmpR op_notIn_seq (pv 1) (pe_glob rfl gK (v := .ref kp) rfl) (by rfl)) (pss_one (ps_raise rfl (takes_of rfl rfl rfl rfl) (pmk_err BK.T BK.F (by decide) BK.g su hr (pa_cons (pv 1) pa_nil)))) pss_nil)
 (pss_cons (ps_asg (pe_call OC hr rfl C.g C.u.kp C.b .nil (passes_call (takes_of rfl rfl rfl rfl) fun _ _ _ _ z => z) (pa_cons (pv 3) (pa_cons (pe_glob rfl gR (v := .ref fr) rfl) (pa_cons (pe_glob rfl gL (v := .int 30) ⟨_, rfl⟩) (pa_cons (pe_glob rfl gI (v := .int 6) ⟨_, rfl⟩) pa_nil))))) (pg_tup rfl (pgs_cons (pg_name (i := 4) scInit.nd rfl (.inl rfl)) (pgs_cons (pg_name (i := 5) scInit.nd rfl (.inl rfl)) (pgs_cons (pg_name (i := 6) scInit.nd rfl (.inl rfl)) pgs_nil)))))
 (pss_cons (ps_set (i := 7) scInit.nd rfl (.inl rfl) (pe_call OL hr3 rfl L.g L.u.kp L.b .nil pass0 (pa_cons (pv 1) (pa_cons (pv 5) (pa_cons (pv 6) pa_nil)))))
 (pss_cons (ps_if (pt_cmpR op_notN (pv 7) pe_non (nomark _)) (pss_one (ps_raise rfl (takes_of rfl rfl rfl rfl) (pmk_err BR.T BR.F (by decide) BR.g su hr (pa_cons (pv 7) pa_nil)))) pss_nil)
 (pss_cons (ps_fld (pv 0) (pv 1) rfl)
 (pss_cons (ps_fld (pv 0) (pv 2) rfl)
 (pss_cons (ps_fld (pv 0) (pv 3) rfl)
 (pss_cons (ps_fld (pv 0) (pe_callTy call_tuple_of (by rfl) T.tuple (by decide +kernel) (pa_cons (pv 4) pa_nil)) rfl)
 (pss_cons (ps_fld (pv 0) (pe_callTy call_tuple_of (by rfl) T.tuple (by decide +kernel) (pa_cons (pv 5) pa_nil)) rfl)
 (pss_cons (ps_fld (pv 0) (pv 6) rfl)
 (pss_one (ps_fld (pv 0) pe_dnewK rfl)))))))))))), ?_⟩
    have hin : inV (.str kd) (kindsB.map V.str) = decide (kd ∈ kindsB) := in_strs kd kindsB
    refine ⟨_, rfl, kp, _, rfl, .inr tK.sq, rfl, flat_strs kindsB, _, rfl, ?_⟩
    rw [hin, decide_eq_true hkd]
    refine iteF ?_
    refine ⟨_, rfl, z, fr, 30, 6, bookD, rfl, hz, ro, D, fun rs ds jmp ra fa ja t xs H2 e s2 hra hfa td has hja ht => ?_, (fun m hm => by rw [ec] at hm; cases hm), fun wh nn mm hm => by rw [ec] at hm; cases hm⟩
    rw [ec] at e
    obtain ⟨rfl, rfl, rfl⟩ : rs = rs0 ∧ ds = ds0 ∧ jmp = jmp0 := by cases e; exact ⟨rfl, rfl, rfl⟩
    have e := ec
    obtain ⟨e1, eF, l30, l5⟩ := codeM_ok e
    subst e1
    have lds := forms_len _ _ _ _ _ eF
    have fok : ∀ d ∈ ds, FOk d := forms_all row_book _ _ _ _ _ eF (fun _ h => absurd h List.not_mem_nil)
    have pok : BksOk ds := fun d hd => (fok d hd).bk
    have J : JOk ds jmp := jumps_of eF
    simp only [List.length_nil] at lds
    refine ⟨t, _, rfl, SqT.of ht, rfl, _, _, rfl, _, _, rfl, _, _, rfl, rfl, ?_⟩
    refine ⟨_, rfl, _, rfl, _, rfl, kd, fa, ja, ds, jmp, rfl, ⟨⟨xs, hfa, td⟩, has⟩, pok, hja, J, by omega, (by show ((ds.drop 0).filter isIfD).length ≤ 20; rw [List.drop_zero]; omega), fun r H3 hv s3 => ?_⟩
    obtain rfl : r = none := least_none lst hv
    have s03 := s2.trans s3
    refine ⟨_, rfl, rfl, _, rfl, ?_⟩
    refine iteNS rfl ?_
    have hx3 := s03 _ _ hx
    have nra : ra ≠ x := fun y => by
      have := s2 _ _ hx
      rw [y, this] at hra; cases hra
    have nfa : fa ≠ x := fun y => by
      have := s2 _ _ hx
      rw [y, this] at hfa; cases hfa
    refine ⟨_, rfl, _, rfl, x, CC, dx, [], rfl, hx3, O.cl, O.no "kind" (by decide +kernel), by decide, ?_⟩
    have u1 : upd H3 x (.ins CC dx (putF "kind" (.str kd) [])) x = some (.ins CC dx [("kind", .str kd)]) := upd_same
    have b1 : ∀ c o, c ≠ x → H3 c = some o → upd H3 x (.ins CC dx (putF "kind" (.str kd) [])) c = some o := fun c o n e => by rw [upd_ne n]; exact e
    generalize upd H3 x (.ins CC dx (putF "kind" (.str kd) [])) = G0 at *
    refine ⟨_, rfl, _, rfl, x, CC, dx, _, rfl, u1, O.cl, O.no "rules" (by decide +kernel), (by show 1 < 1000; decide), ?_⟩
    have u2 : upd G0 x (.ins CC dx (putF "rules" rv [("kind", .str kd)])) x = some (.ins CC dx [("kind", .str kd), ("rules", rv)]) := upd_same
    have b2 : ∀ c o, c ≠ x → G0 c = some o → upd G0 x (.ins CC dx (putF "rules" rv [("kind", .str kd)])) c = some o := fun c o n e => by rw [upd_ne n]; exact e
    generalize upd G0 x (.ins CC dx (putF "rules" rv [("kind", .str kd)])) = G1 at *
    refine ⟨_, rfl, _, rfl, x, CC, dx, _, rfl, u2, O.cl, O.no "text" (by decide +kernel), (by show 2 < 1000; decide), ?_⟩
    have u3 : upd G1 x (.ins CC dx (putF "text" (.str z) [("kind", .str kd), ("rules", rv)])) x = some (.ins CC dx [("kind", .str kd), ("rules", rv), ("text", .str z)]) := upd_same
    have b3 : ∀ c o, c ≠ x → G1 c = some o → upd G1 x (.ins CC dx (putF "text" (.str z) [("kind", .str kd), ("rules", rv)])) c = some o := fun c o n e => by rw [upd_ne n]; exact e
    generalize upd G1 x (.ins CC dx (putF "text" (.str z) [("kind", .str kd), ("rules", rv)])) = G2 at *
    have b03 : ∀ c o, c ≠ x → H3 c = some o → G2 c = some o := fun c o n e => b3 c o n (b2 c o n (b1 c o n e))
    have hra2 := b03 _ _ nra (s3 _ _ hra)
    refine ⟨_, rfl, ra, _, rfl, .inl ⟨SqL.of hra2, fun t3 ht3 => ?_⟩⟩
    have s4 : Same G2 _ := same_new (o := .tup ((linesOf z).map V.str)) ht3
    have t33 : upd G2 t3 (.tup ((linesOf z).map V.str)) t3 = some (.tup ((linesOf z).map V.str)) := upd_same
    generalize upd G2 t3 (.tup ((linesOf z).map V.str)) = G3 at *
    have n3 : t3 ≠ x := fun y => by rw [y, u3] at ht3; cases ht3
    refine ⟨_, rfl, x, CC, dx, _, rfl, s4 _ _ u3, O.cl, O.no "rows" (by decide +kernel), (by show 3 < 1000; decide), ?_⟩
    have u4 : upd G3 x (.ins CC dx (putF "rows" (.ref t3) [("kind", .str kd), ("rules", rv), ("text", .str z)])) x = some (.ins CC dx [("kind", .str kd), ("rules", rv), ("text", .str z), ("rows", .ref t3)]) := upd_same
    have b4 : ∀ c o, c ≠ x → G3 c = some o → upd G3 x (.ins CC dx (putF "rows" (.ref t3) [("kind", .str kd), ("rules", rv), ("text", .str z)])) c = some o := fun c o n e => by rw [upd_ne n]; exact e
    generalize upd G3 x (.ins CC dx (putF "rows" (.ref t3) [("kind", .str kd), ("rules", rv), ("text", .str z)])) = G4 at *
    have hfa4 := b4 _ _ nfa (s4 _ _ (b03 _ _ nfa (s3 _ _ hfa)))
    refine ⟨_, rfl, fa, _, rfl, .inl ⟨SqL.of hfa4, fun t5 ht5 => ?_⟩⟩
    have s5 : Same G4 _ := same_new (o := .tup xs) ht5
    have g55 := upd_at (o := .tup xs) ht5
    generalize upd G4 t5 (.tup xs) = G5 at *
    refine ⟨_, rfl, x, CC, dx, _, rfl, s5 _ _ u4, O.cl, O.no "forms" (by decide +kernel), (by show 4 < 1000; decide), ?_⟩
    have u6 : upd G5 x (.ins CC dx (putF "forms" (.ref t5) [("kind", .str kd), ("rules", rv), ("text", .str z), ("rows", .ref t3)])) x = some (.ins CC dx [("kind", .str kd), ("rules", rv), ("text", .str z), ("rows", .ref t3), ("forms", .ref t5)]) := upd_same
    have b6 : ∀ c o, c ≠ x → G5 c = some o → upd G5 x (.ins CC dx (putF "forms" (.ref t5) [("kind", .str kd), ("rules", rv), ("text", .str z), ("rows", .ref t3)])) c = some o := fun c o n e => by rw [upd_ne n]; exact e
    generalize upd G5 x (.ins CC dx (putF "forms" (.ref t5) [("kind", .str kd), ("rules", rv), ("text", .str z), ("rows", .ref t3)])) = G6 at *
    refine ⟨_, rfl, _, rfl, x, CC, dx, _, rfl, u6, O.cl, O.no "jumps" (by decide +kernel), (by show 5 < 1000; decide), ?_⟩
    have u7 : upd G6 x (.ins CC dx (putF "jumps" (.ref ja) [("kind", .str kd), ("rules", rv), ("text", .str z), ("rows", .ref t3), ("forms", .ref t5)])) x = some (.ins CC dx [("kind", .str kd), ("rules", rv), ("text", .str z), ("rows", .ref t3), ("forms", .ref t5), ("jumps", .ref ja)]) := upd_same
    have b7 : ∀ c o, c ≠ x → G6 c = some o → upd G6 x (.ins CC dx (putF "jumps" (.ref ja) [("kind", .str kd), ("rules", rv), ("text", .str z), ("rows", .ref t3), ("forms", .ref t5)])) c = some o := fun c o n e => by rw [upd_ne n]; exact e
    generalize upd G6 x (.ins CC dx (putF "jumps" (.ref ja) [("kind", .str kd), ("rules", rv), ("text", .str z), ("rows", .ref t3), ("forms", .ref t5)])) = G7 at *
    intro d8 hd8
    have s8 : Same G7 _ := same_new (o := .dK []) hd8
    generalize upd G7 d8 (.dK []) = G8 at *
    refine ⟨_, rfl, x, CC, dx, _, rfl, s8 _ _ u7, O.cl, O.no "answers" (by decide +kernel), (by show 6 < 1000; decide), ?_⟩
    have hx2 := s2 _ _ hx
    have n5 : t5 ≠ x := fun y => by rw [y, u4] at ht5; cases ht5
    have nja : ja ≠ x := ne_of hja hx2 (fun z => nomatch z)
    have kp2 : ∀ c o, c ≠ x → H2 c = some o → G8 c = some o := fun c o n e => s8 _ _ (b7 c o n (b6 c o n (s5 _ _ (b4 c o n (s4 _ _ (b03 c o n (s3 _ _ e)))))))
    have kp3 : ∀ (O : HO) c o, c ≠ x → H2 c = some o → upd G8 x O c = some o := fun O c o n e => by rw [upd_ne n]; exact kp2 c o n e
    have kT : ∀ O : HO, KeepT H2 (upd G8 x O) := fun O a ys ha => by
      have na := rd_ne ha hx2 (fun _ z => nomatch z) (fun _ _ z => nomatch z)
      rcases ha with ha | ⟨o, ha⟩
      · exact .inl (kp3 O _ _ na ha)
      · exact .inr ⟨o, kp3 O _ _ na ha⟩
    refine kend _ (fun c o n e => kp3 _ c o n (s2 _ _ e)) ⟨dx, t3, t5, ja, d8, upd_same, ⟨⟨xs, SqT.of ?_, td.keep (kT _)⟩, has⟩, kp3 _ _ _ nja hja⟩
    rw [upd_ne n5]
    exact s8 _ _ (b7 _ _ n5 (b6 _ _ n5 g55))
end
end IdL
namespace IdL
open PySem L2 TL
/-! ### a text's forms, read to Fm -/
def mapO {α β : Type} (g : α → Option β) : List α → Option (List β)
  | [] => some []
  | a :: l => match g a, mapO g l with
    | some b, some r => some (b :: r)
    | _, _ => none
theorem mapO_ok {α β : Type} {g : α → Option β} {f : β → α} (h : ∀ a b, g a = some b → a = f b) : ∀ {l : List α} {r : List β}, mapO g l = some r → l = r.map f
  | [], r, e => by cases e; rfl
  | a :: l, r, e => by
    unfold mapO at e
    cases e1 : g a with
    | none => rw [e1] at e; cases e
    | some b =>
      cases e2 : mapO g l with
      | none => rw [e1, e2] at e; cases e
      | some r' =>
        rw [e1, e2] at e
        cases e
        rw [List.map_cons, ← mapO_ok h e2, ← h a b e1]
def allNm : List Nm := [.size, .keep, .a, .b, .c, .next, .many, .more, .own, .mark]
def nmOf (z : Str) : Option Nm := allNm.find? fun n => decide (nmS n = z)
theorem nmOf_ok {z : Str} {n : Nm} (h : nmOf z = some n) : z = nmS n := (of_decide_eq_true (List.find?_some (p := fun n => decide (nmS n = z)) h)).symm
def sgOf (z : Str) : Option Sg := ([.lt, .le, .is] : List Sg).find? fun n => decide (sgS n = z)
theorem sgOf_ok {z : Str} {n : Sg} (h : sgOf z = some n) : z = sgS n := (of_decide_eq_true (List.find?_some (p := fun n => decide (sgS n = z)) h)).symm
def mvOf (z : Str) : Option Mv := ([.back, .again] : List Mv).find? fun n => decide (mvS n = z)
theorem mvOf_ok {z : Str} {n : Mv} (h : mvOf z = some n) : z = mvS n := (of_decide_eq_true (List.find?_some (p := fun n => decide (mvS n = z)) h)).symm
def tvOf : PyData → Option Tv
  | .int i => some (.num i)
  | .str z => (nmOf z).map .nm
  | _ => none
theorem tvOf_ok {d : PyData} {t : Tv} (h : tvOf d = some t) : d = tvD t := by
  cases d with
  | int i => cases h; rfl
  | str z =>
    obtain ⟨n, e1, e2⟩ := Option.map_eq_some_iff.mp (show (nmOf z).map Tv.nm = some t from h)
    subst e2
    rw [nmOf_ok e1]; rfl
  | _ => cases h
def termOf : PyData → Option (Int × Tv)
  | .tuple [.int s, d] => (tvOf d).map fun t => (s, t)
  | _ => none
theorem termOf_ok {d : PyData} {t : Int × Tv} (h : termOf d = some t) : d = tmF t := by
  unfold termOf at h
  split at h
  · obtain ⟨n, e1, e2⟩ := Option.map_eq_some_iff.mp h
    subst e2
    rw [tvOf_ok e1]; rfl
  · cases h
def termsOfD : PyData → Option (List (Int × Tv))
  | .tuple ds => mapO termOf ds
  | _ => none
theorem termsOfD_ok {d : PyData} {ts : List (Int × Tv)} (h : termsOfD d = some ts) : d = .tuple (ts.map tmF) := by
  unfold termsOfD at h
  split at h
  · rw [mapO_ok (fun _ _ => termOf_ok) h]
  · cases h
def partOf : PyData → Option Pt
  | .tuple [.bool w, .str s, l, r] => match sgOf s, tvOf l, tvOf r with
    | some s', some l', some r' => some ⟨w, s', l', r'⟩
    | _, _, _ => none
  | _ => none
theorem partOf_ok {d : PyData} {t : Pt} (h : partOf d = some t) : d = ptF t := by
  unfold partOf at h
  split at h
  · rename_i w s l r
    split at h
    · rename_i s' l' r' e1 e2 e3
      cases h
      rw [sgOf_ok e1, tvOf_ok e2, tvOf_ok e3]; rfl
    · cases h
  · cases h
def form3 (w z : Str) (d : PyData) : Option Fm :=
  if w = "set" then (match nmOf z, termsOfD d with
    | some n, some ts => some (.set n ts)
    | _, _ => none)
  else if w = "wrap" then (match nmOf z, termsOfD d with
    | some n, some ts => some (.wrap n ts)
    | _, _ => none)
  else if w = "sealed" then (match d with
    | .str y => (match nmOf z, nmOf y with
      | some n, some n' => some (.sealed n n')
      | _, _ => none)
    | _ => none)
  else if z = "times" then (match mvOf w, termsOfD d with
    | some m, some ts => some (.times m ts)
    | _, _ => none)
  else if z = "until" then (match d with
    | .str y => (match mvOf w, nmOf y with
      | some m, some n => some (.untl m n)
      | _, _ => none)
    | _ => none)
  else none
theorem form3_ok {w z : Str} {d : PyData} {f : Fm} (h : form3 w z d = some f) : .tuple [.str w, .str z, d] = fmD f := by
  unfold form3 at h
  split at h
  · rename_i e; subst e
    split at h
    · rename_i n ts e1 e2
      cases h
      rw [nmOf_ok e1, termsOfD_ok e2]; rfl
    · cases h
  split at h
  · rename_i e; subst e
    split at h
    · rename_i n ts e1 e2
      cases h
      rw [nmOf_ok e1, termsOfD_ok e2]; rfl
    · cases h
  split at h
  · rename_i e; subst e
    split at h
    · split at h
      · rename_i n n' e1 e2
        cases h
        rw [nmOf_ok e1, nmOf_ok e2]; rfl
      · cases h
    · cases h
  split at h
  · rename_i e; subst e
    split at h
    · rename_i m ts e1 e2
      cases h
      rw [mvOf_ok e1, termsOfD_ok e2]; rfl
    · cases h
  split at h
  · rename_i e; subst e
    split at h
    · split at h
      · rename_i m n e1 e2
        cases h
        rw [mvOf_ok e1, nmOf_ok e2]; rfl
      · cases h
    · cases h
  · cases h
def fmOf : PyData → Option Fm
  | .tuple [.str w, .str z, d] => form3 w z d
  | .tuple [.str w, .str z] => if w = "write" then (nmOf z).map .write else none
  | .tuple [.str w, .tuple ps] => if w = "if" then (mapO partOf ps).map .iff else none
  | .tuple [.str w] => some (.one w)
  | _ => none
theorem fmOf_ok {d : PyData} {f : Fm} (h : fmOf d = some f) : d = fmD f := by
  unfold fmOf at h
  split at h
  · exact form3_ok h
  · split at h
    · rename_i e; subst e
      obtain ⟨n, e1, e2⟩ := Option.map_eq_some_iff.mp h
      subst e2
      rw [nmOf_ok e1]; rfl
    · cases h
  · split at h
    · rename_i e; subst e
      obtain ⟨n, e1, e2⟩ := Option.map_eq_some_iff.mp h
      subst e2
      rw [mapO_ok (fun _ _ => partOf_ok) e1]; rfl
    · cases h
  · cases h; rfl
  · cases h
def fmsOf (ds : List PyData) : Option (List Fm) := mapO fmOf ds
theorem fmsOf_ok {ds : List PyData} {fs : List Fm} (h : fmsOf ds = some fs) : ds = fs.map fmD := mapO_ok (fun _ _ => fmOf_ok) h
/-- a made code may be played -/
theorem CdFl.play {K : PySem.W.Frag} {H : Hp} {x C : Addr} {kd : Str} {rv : V} {z : Str} {ds : List PyData} {jm : List (Key × V)} {rs : List Str} {fs : List Fm} (c : CdFl K H x C kd rv z ds jm) (e : codeM bookD 30 6 z = .ok rs ds jm) (ef : fmsOf ds = some fs) (ok : fs.all okB = true) : CdP K H x C kd rv fs jm := by
  obtain ⟨dx, t1, t2, ja, aa, h1, h2, h3⟩ := c
  have ed := fmsOf_ok ef
  obtain ⟨e1, eF, l30, l5⟩ := codeM_ok e
  have J : JOk ds jm := jumps_of eF
  have lds := forms_len _ _ _ _ _ eF
  simp only [List.length_nil] at lds
  rw [ed] at h2 J lds
  rw [List.length_map] at lds
  exact ⟨⟨dx, t1, t2, ja, aa, z, h1, h2, h3⟩, J, by omega, ok⟩
end IdL
namespace IdL
open PySem L2 TL
/-! ### rows of the law, as data; a row is played by computing -/
structure Row where
  kd : Str
  z : Str
  c : Cs
  wd : Str
  wr : List Int
  bk : List Int
  ag : List Int
  many : Int
  more : Int
  own : Int
  /-- whether it is moved too -/
  tr : Bool
def runB (kd z : Str) (c : Cs) : Option (Str × Dk × List Str) := match codeM bookD 30 6 z with
  | .ok _ ds jm => match fmsOf ds with
    | some fs => match stepN fs jm 100 0 with
      | some l0 => match goF fs jm 50 l0 (begS c (1 * c.sz + 0)) with
        | some (wd, S) => if fs.all okB = true then some (wd, S, brokeB S (owedC kd c (1 * c.sz + 0)) wd) else none
        | none => none
      | none => none
    | none => none
  | _ => none
/-- what a run that computes says -/
theorem runB_ok {kd z : Str} {c : Cs} {wd : Str} {S : Dk} {br : List Str} (h : runB kd z c = some (wd, S, br)) : ∃ rs ds jm fs, codeM bookD 30 6 z = .ok rs ds jm ∧ fmsOf ds = some fs ∧ fs.all okB = true ∧ PlayP fs jm kd c (1 * c.sz + 0) wd S br := by
  unfold runB at h
  split at h
  · rename_i rs ds jm e
    split at h
    · rename_i fs ef
      split at h
      · rename_i l0 e0
        split at h
        · rename_i wd' S' eg
          split at h
          · rename_i ok
            cases h
            exact ⟨rs, ds, jm, fs, e, ef, ok, l0, 50, e0, eg, rfl⟩
          · cases h
        · cases h
      · cases h
    · cases h
  · cases h
example : ((runB "fail" "back until a" ⟨4, 2, [2], [], 0⟩).map fun r => (r.1, r.2.1.bk)) = some (("done" : Str), ([1, 0] : List Int)) := by decide +kernel
end IdL
namespace IdL
open PySem L2 TL
/-! ### all rows of the law: each plays as its row says, moved by any number below its size too -/
def turnC (c : Cs) (by_ : Int) : Cs := { c with pl := (c.pl + by_) % c.sz }
def sameB (r : Row) (S : Dk) (wd : Str) (br : List Str) (by_ : Int) : Bool :=
  decide (wd = r.wd) && (decide (S.wr = r.wr.map fun a => (a + by_) % r.c.sz) && (decide (S.bk = r.bk.map fun a => (a + by_) % r.c.sz) && (decide (S.ag = r.ag.map fun a => (a + by_) % r.c.sz) && (decide (S.nm .many = r.many) && (decide (S.nm .more = r.more) && decide (S.nm .own = r.own))))))
def turnsB (r : Row) (se : List (Int × Int)) (br : List Str) : Bool := (List.range r.c.sz.toNat).all fun b => match runB r.kd r.z (turnC r.c b) with
  | some (wd, S, br') => sameB r S wd br' b && (decide (br' = br) && ((decide (S.se.length = se.length) && decide (se.length ≤ 1000)) && (S.se.all fun p => decide (valI (se.map fun q => ((q.1 + (b : Int)) % r.c.sz, q.2)) p.1 = some p.2)) && decide (se.map fun q => (q.1 + (b : Int)) % r.c.sz).Nodup))
  | none => false
def rowB (r : Row) : Bool := match runB r.kd r.z r.c with
  | some (wd, S, br) => sameB r S wd br 0 && ((decide (wd = "beyond") == decide (br = (["inside"] : List Str))) && (!r.tr || turnsB r S.se br))
  | none => false
def rows0 : List Row := [
  ⟨"note", "if own is keep\nno\nend\nif many is keep\na = wrap next - many\nb = sealed a\nmany = many - b\nend\nif own is 0\nmark = next\nend\nwrite next\nnext = wrap next + 1\nmany = many + 1\nown = own + 1\nmore = 0", ⟨3, 2, [2, 1], [], 0⟩, "done", [2], [], [], 2, 0, 1, true⟩,
  ⟨"note", "if own is keep\nno\nend\nif many is keep\na = wrap next - many\nb = sealed a\nmany = many - b\nend\nif own is 0\nmark = next\nend\nwrite next\nnext = wrap next + 1\nmany = many + 1\nown = own + 1\nmore = 0", ⟨3, 0, [], [], 3⟩, "refused", [], [], [], 3, 0, 3, true⟩,
  ⟨"note", "if own is keep\nno\nend\nif many is keep\na = wrap next - many\nb = sealed a\nmany = many - b\nend\nif own is 0\nmark = next\nend\nwrite next\nnext = wrap next + 1\nmany = many + 1\nown = own + 1\nmore = 0", ⟨4, 0, [3], [1], 0⟩, "done", [0], [], [], 4, 0, 1, true⟩,
  ⟨"note", "if own is keep\nno\nend\nif many is keep\na = wrap next - many\nb = sealed a\nmany = many - b\nend\nif own is 0\nmark = next\nend\nwrite next\nnext = wrap next + 1\nmany = many + 1\nown = own + 1\nmore = 0", ⟨1, 0, [1], [], 0⟩, "done", [0], [], [], 1, 0, 1, true⟩,
  ⟨"fail", "many = many - own\nback own times\nown = 0\nmark = next", ⟨4, 1, [1], [], 3⟩, "done", [], [0, 3, 2], [], 1, 0, 0, true⟩,
  ⟨"fail", "back until mark", ⟨4, 1, [], [], 4⟩, "done", [], [], [], 4, 0, 4, true⟩]
theorem rows0_ok : rows0.all rowB = true := by decide +kernel
def rows1 : List Row := [
  ⟨"fail", "back until a", ⟨4, 2, [2], [], 0⟩, "done", [], [1, 0], [], 2, 0, 0, false⟩,
  ⟨"undo", "if many is 0\nno\nend\na = wrap next - 1\nb = sealed a\nback b times\nmany = many - b\nmore = more + b\nmark = next", ⟨5, 1, [1, 3], [1], 0⟩, "done", [], [0, 4, 3], [], 1, 4, 0, true⟩,
  ⟨"undo", "if many is 0\nno\nend\na = wrap next - 1\nb = sealed a\nback b times\nmany = many - b\nmore = more + b\nmark = next", ⟨5, 1, [], [2, 2], 0⟩, "refused", [], [], [], 0, 4, 0, true⟩,
  ⟨"redo", "if more is 0\nno\nend\nb = sealed next\nagain b times\nmany = many + b\nmore = more - b\nmark = next", ⟨5, 3, [1], [3, 1], 0⟩, "done", [], [], [3, 4, 0], 4, 1, 0, true⟩,
  ⟨"redo", "again more times\nquit\nno", ⟨2, 1, [], [1, 1], 0⟩, "done", [], [], [1, 0], 0, 2, 0, true⟩,
  ⟨"note", "many = many - 1", ⟨3, 0, [], [], 0⟩, "beyond", [], [], [], 0, 0, 0, true⟩]
theorem rows1_ok : rows1.all rowB = true := by decide +kernel
def rows2 : List Row := [
  ⟨"note", "own = size + 1\nwrite a", ⟨3, 0, [], [], 0⟩, "beyond", [], [], [], 0, 0, 0, true⟩,
  ⟨"note", "own = size", ⟨3, 0, [1], [], 0⟩, "done", [], [], [], 1, 0, 3, true⟩,
  ⟨"note", "a = size + 3\na = wrap a", ⟨3, 0, [], [], 0⟩, "beyond", [], [], [], 0, 0, 0, true⟩,
  ⟨"fail", "a = 0 - size\na = wrap a\nback a times", ⟨3, 0, [], [], 0⟩, "done", [], [], [], 0, 0, 0, false⟩,
  ⟨"note", "write next\na = sealed next", ⟨3, 0, [3], [], 0⟩, "beyond", [0], [], [], 3, 0, 0, true⟩,
  ⟨"undo", "a = wrap next - 2\nb = sealed a\nno", ⟨6, 5, [1, 3], [], 0⟩, "beyond", [], [], [], 4, 0, 0, true⟩]
theorem rows2_ok : rows2.all rowB = true := by decide +kernel
def rows3 : List Row := [
  ⟨"undo", "a = wrap next - 3\nb = sealed a\nback b times", ⟨6, 5, [1, 3], [], 0⟩, "done", [], [4, 3, 2], [], 4, 0, 0, true⟩,
  ⟨"fail", "next = size\nback 0 times", ⟨3, 1, [], [], 0⟩, "beyond", [], [], [], 0, 0, 0, true⟩,
  ⟨"redo", "b = sealed next\nc = wrap next + b\nagain until c\nmany = many + b\nmore = more - b\nmark = next", ⟨5, 3, [1], [3, 1], 0⟩, "done", [], [], [3, 4, 0], 4, 1, 0, true⟩,
  ⟨"redo", "b = sealed next\nc = wrap next + b\nagain until c\nmany = many + b\nmore = more - b\nmark = next", ⟨3, 1, [], [3], 0⟩, "done", [], [], [], 3, 0, 0, true⟩,
  ⟨"note", "a = wrap next + 1\nwrite a", ⟨3, 2, [1], [], 1⟩, "done", [0], [], [], 2, 0, 1, true⟩,
  ⟨"fail", "a = next - size\nb = wrap a - size", ⟨3, 1, [], [], 0⟩, "beyond", [], [], [], 0, 0, 0, true⟩]
theorem rows3_ok : rows3.all rowB = true := by decide +kernel
def rows4 : List Row := [
  ⟨"fail", "a = wrap next + size", ⟨3, 1, [1], [], 1⟩, "done", [], [], [], 2, 0, 1, true⟩,
  ⟨"undo", "a = size\nb = sealed a", ⟨3, 0, [3], [], 0⟩, "beyond", [], [], [], 3, 0, 0, true⟩,
  ⟨"redo", "a = next - size\nb = sealed a", ⟨2, 1, [], [2], 0⟩, "beyond", [], [], [], 0, 2, 0, true⟩,
  ⟨"note", "a = next - size\nwrite a", ⟨3, 2, [1], [], 0⟩, "beyond", [], [], [], 1, 0, 0, true⟩,
  ⟨"note", "a = size\nwrite a", ⟨3, 0, [1], [1], 0⟩, "beyond", [], [], [], 1, 1, 0, true⟩,
  ⟨"fail", "a = size\nback until a", ⟨3, 1, [1], [], 2⟩, "beyond", [], [], [], 3, 0, 2, true⟩]
theorem rows4_ok : rows4.all rowB = true := by decide +kernel
def rows5 : List Row := [
  ⟨"redo", "a = next - size\nagain until a", ⟨3, 1, [], [1], 0⟩, "beyond", [], [], [], 0, 1, 0, true⟩,
  ⟨"fail", "back own - 1 times", ⟨3, 1, [1], [], 0⟩, "beyond", [], [], [], 1, 0, 0, true⟩,
  ⟨"fail", "back size + 1 times", ⟨3, 1, [2], [], 0⟩, "beyond", [], [], [], 2, 0, 0, true⟩,
  ⟨"fail", "back size times", ⟨3, 1, [2], [], 0⟩, "done", [], [0, 2, 1], [], 2, 0, 0, true⟩,
  ⟨"redo", "next = size\nagain 0 times", ⟨3, 0, [], [2], 0⟩, "beyond", [], [], [], 0, 2, 0, true⟩,
  ⟨"fail", "if own is 0\nno\nend\nback own times", ⟨3, 1, [2], [], 0⟩, "refused", [], [], [], 2, 0, 0, true⟩]
theorem rows5_ok : rows5.all rowB = true := by decide +kernel
def rowsL : List Row := rows0 ++ (rows1 ++ (rows2 ++ (rows3 ++ (rows4 ++ (rows5)))))
end IdL
namespace L2
open PySem PySem.Spec PyProof.Rows TL IdL
/-! ### written data: constants, names that hold texts, tuples, lists, at any depth -/
theorem rd_same {H H' : Hp} {a : Addr} {u : HO} (s : Same H H') (h : Rd H a u) : Rd H' a u := h.imp (s a _) fun ⟨o, e⟩ => ⟨o, s a _ e⟩
theorem sqT_same {K : PySem.W.Frag} {H H' : Hp} {a : Addr} {xs : List V} (s : Same H H') (h : SqT K H a xs) : SqT K H' a xs := h.imp (rd_same s) id
mutual
theorem dp_same {K : PySem.W.Frag} {H H' : Hp} (s : Same H H') : ∀ (d : PyData) (v : V), Dp K H v d → Dp K H' v d
  | .none, _, h => by cases h; exact .non
  | .bool b, _, h => by cases h; exact .bl b
  | .int i, _, h => by cases h; exact .int i
  | .str x, _, h => by cases h; exact .str x
  | .list ds, _, h => by
    cases h with
    | lst hs ha => exact .lst (s.seq hs) (dps_same s ds _ ha)
  | .tuple ds, _, h => by
    cases h with
    | tup hs ha => exact .tup (sqT_same s hs) (dps_same s ds _ ha)
  | .dict _, _, h => by cases h
theorem dps_same {K : PySem.W.Frag} {H H' : Hp} (s : Same H H') : ∀ (ds : List PyData) (vs : List V), DpAll K H vs ds → DpAll K H' vs ds
  | [], _, h => by cases h; exact .nil
  | d :: ds, _, h => by
    cases h with
    | cons h1 h2 => exact .cons (dp_same s d _ h1) (dps_same s ds _ h2)
end
theorem PE.weak {X : Cx} {e : Expr} {t t' : TE} (h : PE X e t) (w : ∀ σ H Q, t' σ H Q → t σ H Q) : PE X e t' := ⟨fun pins s σ H Q I q => h.run pins s σ H Q I (w σ H Q q)⟩
theorem PA.weak {X : Cx} {es : List Expr} {t t' : TA} (h : PA X es t) (w : ∀ σ H Q, t' σ H Q → t σ H Q) : PA X es t' := ⟨fun pos pins s σ H Q I q => h.run pos pins s σ H Q I (w σ H Q q)⟩
def offO (D : Addr) (H : Hp) : Hp := fun a => if a = D then none else H a
theorem offO_mono {D : Addr} {H G : Hp} (s : Same H G) : Same (offO D H) (offO D G) := fun a o e => by
  unfold offO at e ⊢
  split at e
  · cases e
  · rename_i h
    rw [if_neg h]; exact s _ _ e
def litL (f : Expr → Option PyData) : List Expr → Option (List PyData)
  | [] => some []
  | e :: es => match f e with
    | none => none
    | some d => match litL f es with
      | none => none
      | some ds => some (d :: ds)
def litE (ρ : Str → Option Str) : Nat → Expr → Option PyData
  | 0, _ => none
  | n + 1, e => match e with
    | .Constant c _ _ => (match c with
      | .int i => some (.int i)
      | .str x => some (.str x)
      | _ => none)
    | .Name x _ => (match ρ x with
      | some z => some (.str z)
      | none => none)
    | .Tuple es _ _ => if es.length ≤ 1000 then (match litL (litE ρ n) es with
      | some ds => some (.tuple ds)
      | none => none) else none
    | .List es _ => if es.length ≤ 1000 then (match litL (litE ρ n) es with
      | some ds => some (.list ds)
      | none => none) else none
    | _ => none
/-- the names that a written datum may read -/
def NmOk (X : Cx) (ρ : Str → Option Str) (σ : St) : Prop := ∀ x z, ρ x = some z → ∃ i, (∀ pos, PE X (.Name x pos) (tVar i)) ∧ σ[i]? = some (some (.str z))
def tLit (X : Cx) (ρ : Str → Option Str) (d : PyData) : TE := fun σ H Q => NmOk X ρ σ ∧ ∀ v H', Same H H' → Dp X.K H' v d → (∀ p, H p ≠ none → Dp X.K (offO p H') v d) → Q v H'
def tLits (X : Cx) (ρ : Str → Option Str) (ds : List PyData) : TA := fun σ H Q => NmOk X ρ σ ∧ ∀ vs H', Same H H' → vs.length = ds.length → DpAll X.K H' vs ds → (∀ p, H p ≠ none → DpAll X.K (offO p H') vs ds) → Q vs H'
section
variable {X : Cx} {ρ : Str → Option Str}
def NoStar (X : Cx) (e : Expr) : Prop := ∀ es, starEach (e :: es) X.env = (false, eval e X.env) :: starEach es X.env
theorem lit_pes {f : Expr → Option PyData} (hf : ∀ e d, f e = some d → PE X e (tLit X ρ d) ∧ NoStar X e) : ∀ es ds, litL f es = some ds → PA X es (tLits X ρ ds) ∧ ds.length = es.length
  | [], ds, h => by
    cases h
    exact ⟨pa_nil.weak fun σ H Q q => q.2 [] H (fun _ _ e => e) rfl .nil (fun _ _ => .nil), rfl⟩
  | e :: es, ds, h => by
    unfold litL at h
    split at h
    · cases h
    rename_i d hd
    split at h
    · cases h
    rename_i ds' hds
    cases h
    obtain ⟨he, ns⟩ := hf e d hd
    obtain ⟨hs, hl⟩ := lit_pes hf es ds' hds
    refine ⟨(pa_cons he hs (ns es)).weak fun σ H Q q => ⟨q.1, fun v H1 s1 dv ov => ⟨q.1, fun vs H2 s2 l2 dvs ovs => q.2 (v :: vs) H2 (fun a o e => s2 a o (s1 a o e)) (by rw [List.length_cons, List.length_cons, l2]) (.cons (dp_same s2 d v dv) dvs) fun p hp => .cons (dp_same (offO_mono s2) d v (ov p hp)) (ovs p fun y => ?_)⟩⟩, by rw [List.length_cons, List.length_cons, hl]⟩
    cases e : H p with
    | none => exact hp e
    | some o => rw [s1 _ _ e] at y; cases y
theorem off_new_at {H G : Hp} {p q : Addr} {o : HO} (hp : H p ≠ none) (s : Same H G) (hq : G q = none) : offO p (upd G q o) q = some o := by
  unfold offO
  rw [if_neg (fun y => ?_), upd_same]
  subst y
  cases e : H q with
  | none => exact hp e
  | some o => rw [s _ _ e] at hq; cases hq
theorem lit_pe : ∀ n e d, litE ρ n e = some d → PE X e (tLit X ρ d) ∧ NoStar X e
  | 0, e, d, h => by cases h
  | n + 1, e, d, h => by
    cases e with
    | Constant c k pos =>
      cases c with
      | int i => cases h; exact ⟨pe_int.weak fun σ H Q q => q.2 _ H (fun _ _ e => e) (.int i) (fun _ _ => .int i), fun _ => rfl⟩
      | str x => cases h; exact ⟨pe_str.weak fun σ H Q q => q.2 _ H (fun _ _ e => e) (.str x) (fun _ _ => .str x), fun _ => rfl⟩
      | _ => cases h
    | Name x pos =>
      have h' : (match ρ x with
      | some z => some (PyData.str z)
      | none => none) = some d := h
      split at h'
      · rename_i z hz
        cases h'
        refine ⟨⟨fun pins s σ H Q I q => ?_⟩, fun _ => rfl⟩
        obtain ⟨i, hi, hv⟩ := q.1 x z hz
        exact (hi pos).run pins s σ H Q I ⟨_, hv, q.2 _ H (fun _ _ e => e) (.str z) (fun _ _ => .str z)⟩
      · cases h'
    | Tuple es k pos =>
      have h' : (if es.length ≤ 1000 then (match litL (litE ρ n) es with
      | some ds => some (PyData.tuple ds)
      | none => none) else none) = some d := h
      split at h'
      · rename_i hl
        split at h'
        · rename_i ds hds
          cases h'
          obtain ⟨ha, ll⟩ := lit_pes (fun e d h => lit_pe n e d h) es ds hds
          refine ⟨(pe_tup ha).weak fun σ H Q q => ⟨q.1, fun vs H1 s1 l1 dvs ovs => ⟨by rw [l1, ll, sizeLine_eq]; omega, fun p hp => q.2 (.ref p) _ (fun a o e => (same_new hp) _ _ (s1 _ _ e)) (.tup (SqT.of upd_same) (dps_same (same_new hp) _ _ dvs)) fun p' hp' => .tup (SqT.of (off_new_at hp' s1 hp)) (dps_same (offO_mono (same_new hp)) _ _ (ovs p' hp'))⟩⟩, fun _ => rfl⟩
        · cases h'
      · cases h'
    | List es pos =>
      have h' : (if es.length ≤ 1000 then (match litL (litE ρ n) es with
      | some ds => some (PyData.list ds)
      | none => none) else none) = some d := h
      split at h'
      · rename_i hl
        split at h'
        · rename_i ds hds
          cases h'
          obtain ⟨ha, ll⟩ := lit_pes (fun e d h => lit_pe n e d h) es ds hds
          refine ⟨(pe_lst ha).weak fun σ H Q q => ⟨q.1, fun vs H1 s1 l1 dvs ovs => ⟨by rw [l1, ll, sizeLine_eq]; omega, fun p hp => q.2 (.ref p) _ (fun a o e => (same_new hp) _ _ (s1 _ _ e)) (.lst (SqL.of upd_same) (dps_same (same_new hp) _ _ dvs)) fun p' hp' => .lst (SqL.of (off_new_at hp' s1 hp)) (dps_same (offO_mono (same_new hp)) _ _ (ovs p' hp'))⟩⟩, fun _ => rfl⟩
        · cases h'
      · cases h'
    | _ => cases h
end
end L2
namespace IdL
open PySem L2 TL
/-! ### the law's rows as it lists them -/
def intsD (l : List Int) : PyData := .list (l.map .int)
def caseD (c : Cs) : PyData := .tuple [.int c.sz, .int c.pl, .tuple (c.dn.map .int), .tuple (c.mo.map .int), .int c.ow]
def lrD (r : Row) : PyData := .tuple [.str r.kd, .str r.z, caseD r.c, .str r.wd, .tuple [intsD r.wr, intsD r.bk, intsD r.ag], .int r.many, .int r.more, .int r.own]
def row0 : Row := ⟨"", "", ⟨0, 0, [], [], 0⟩, "", [], [], [], 0, 0, 0, false⟩
def rowsH : List Row := rows0 ++ (rows1 ++ (rows2 ++ rows3.take 2))
def rowsF : List Row := rows3.drop 2 ++ (rows4 ++ rows5)
theorem rows_HF : rowsH ++ rowsF = rowsL := rfl
def zN : Str := (rowsH.getD 0 row0).z
def zF : Str := (rowsH.getD 4 row0).z
def zU : Str := (rowsH.getD 7 row0).z
def zR : Str := (rowsH.getD 9 row0).z
def trowsF1 : Str := "b = sealed next\nc = wrap next + b\nagain until c\nmany = many + b\nmore = more - b\nmark = next"
def trowsF2 : Str := "a = next - size\nb = wrap a - size"
def trowsH1 : Str := "a = 0 - size\na = wrap a\nback a times"
def trowsH2 : Str := "a = wrap next - 3\nb = sealed a\nback b times"

def ρF (z : Str) : Str → Option Str := fun x => if x = "_law_text_here" then some z else none
def ρH (z : Option Str) : Str → Option Str := fun x => if x = "_law_text_here" then z else if x = "_law_note" then some zN else if x = "_law_fail" then some zF else if x = "_law_undo" then some zU else if x = "_law_redo" then some zR else none
/-- a list of rows -/
def RowsAt (K : PySem.W.Frag) (H : Hp) (p : Addr) (rs : List Row) : Prop := ∃ vs, H p = some (.lst vs) ∧ vs.length = rs.length ∧ DpAll K (offO p H) vs (rs.map lrD)
theorem offO_upd {D : Addr} {H : Hp} {o : HO} : offO D (upd H D o) = offO D H := funext fun a => by
  unfold offO
  by_cases h : a = D
  · rw [if_pos h, if_pos h]
  · rw [if_neg h, if_neg h, upd_ne h]
theorem offO_new {D : Addr} {H G : Hp} (hD : H D = none) (s : Same H G) : Same H (offO D G) := fun a o e => by
  show (if a = D then none else G a) = _
  rw [if_neg (fun y => by rw [y, hD] at e; cases e)]
  exact s _ _ e
theorem offO_same {D : Addr} {H : Hp} : Same (offO D H) H := fun a o e => by
  unfold offO at e
  split at e
  · cases e
  · exact e
theorem dps_app {K : PySem.W.Frag} {H : Hp} : ∀ {vs : List V} {ds : List PyData} {v : V} {d : PyData}, DpAll K H vs ds → Dp K H v d → DpAll K H (vs ++ [v]) (ds ++ [d])
  | _, _, _, _, .nil, h => .cons h .nil
  | _, _, _, _, .cons h t, k => .cons h (dps_app t k)
/-- the rows that stand so far, in a list made since H -/
structure Rs (K : PySem.W.Frag) (H G : Hp) (p : Addr) (rs : List Row) : Prop where
  new : H p = none
  off : Same H (offO p G)
  at_ : RowsAt K G p rs
theorem Rs.one {K : PySem.W.Frag} {H G : Hp} {p : Addr} {v : V} {r : Row} (s : Same H G) (hp : G p = none) (d : Dp K G v (lrD r)) : Rs K H (upd G p (.lst [v])) p [r] := by
  have hH : H p = none := by
    cases e : H p with
    | none => rfl
    | some o => rw [s _ _ e] at hp; cases hp
  exact ⟨hH, offO_new hH (fun a o e => (same_new hp) _ _ (s _ _ e)), [v], upd_same, rfl, .cons (dp_same (offO_new hp (same_new hp)) _ _ d) .nil⟩
theorem Rs.app {K : PySem.W.Frag} {H G G1 : Hp} {p : Addr} {v : V} {r : Row} {rs : List Row} {vs : List V} (R : Rs K H G p rs) (s : Same G G1) (e : G p = some (.lst vs)) (l : vs.length = rs.length) (a : DpAll K (offO p G) vs (rs.map lrD)) (d : Dp K (offO p G1) v (lrD r)) : Rs K H (upd G1 p (.lst (vs ++ [v]))) p (rs ++ [r]) := by
  refine ⟨R.new, ?_, vs ++ [v], upd_same, by rw [List.length_append, List.length_append, l]; rfl, ?_⟩
  · rw [offO_upd]
    exact fun a o e => offO_mono s _ _ (R.off _ _ e)
  · rw [offO_upd, List.map_append]
    exact dps_app (dps_same (offO_mono s) _ _ a) d
def spRows (K : PySem.W.Frag) (rs : List Row) : Sp := fun vs H Q _ => vs = [] ∧ ∀ p H', Same H H' → H p = none → RowsAt K H' p rs → Q (.ref p) H'
theorem Rs.done {K : PySem.W.Frag} {H G : Hp} {p : Addr} {rs : List Row} (R : Rs K H G p rs) : Same H G := fun a o e => offO_same _ _ (R.off _ _ e)
/-- a row is put to the list -/
theorem st_row {X : Cx} {ρ : Str → Option Str} {r : Row} {tz : TS} {D : Ends} {σ : St} {H0 G : Hp} {p : Addr} {rs : List Row} {i : Nat} (R : Rs X.K H0 G p rs) (l : rs.length < 100) (nm : NmOk X ρ σ) (hσ : σ[i]? = some (some (.ref p)))
    (k : ∀ G', Rs X.K H0 G' p (rs ++ [r]) → tz D σ G') : tSeq (tDrop (tBM X.K "list" rAppend (tVar i) (tCons (tLit X ρ (lrD r)) tNil))) tz D σ G := by
  obtain ⟨vs, e, lv, a⟩ := R.at_
  refine ⟨_, hσ, .inl ⟨rfl, _, SqL.of e⟩, nm, fun v H' s d od => ⟨p, vs, v, rfl, rfl, s _ _ e, by rw [lv, sizeLine_eq]; omega, ?_⟩⟩
  exact k _ (R.app s e lv a (od p (by rw [e]; exact fun y => nomatch y)))
theorem nm_far {X : Cx} {t : Str} {σ : St} (h : ∀ pos, PE X (.Name "_law_text_here" pos) (tVar 0)) (hσ : σ[0]? = some (some (.str t))) : NmOk X (ρF t) σ := fun x z e => by
  unfold ρF at e
  split at e
  · rename_i y
    subst y
    cases e
    exact ⟨0, h, hσ⟩
  · cases e
abbrev sFar : Stmt := top 109
theorem scFar : FnScope ["_law_text_here", "_law_rows"] [] (defScope sFar) := ⟨rfl, rfl, rfl, by decide +kernel, rfl, by decide +kernel, by decide +kernel⟩
section
variable {P : Program} {w : World} {K : PySem.W.Frag} {mg : Str → Option Value} {base : Heap}
theorem ok_far {f : Addr} {fd : FuncData} (F : Fun K "_law_far_rows" "_law_far_rows" sFar f fd) : FnOk P w K mg base CX0 1 f fd [] (spRows K rowsF) := by
  refine F.ok scFar (fun vs H Q E h => ?_) (fun cdv A outer s H vs Q E hr h => ?_)
  · obtain ⟨rfl, _⟩ := h
    rfl
  · obtain ⟨rfl, k⟩ := h
    refine ⟨_, (pss_cons (ps_set (i := 0) scFar.nd rfl (.inl rfl) pe_str)
 (pss_cons (ps_set (i := 1) scFar.nd rfl (.inl rfl) (pe_lst (pa_cons (lit_pe (ρ := ρF trowsF1) 5 _ (lrD (rowsF.getD 0 row0)) (by kernel_rfl)).1 pa_nil)))
 (pss_cons (ps_expr (pe_bm PySem.F.plainAttrs_list PySem.F.slot_list_append PySem.F.type_list_append mt_append (pv 1) (pa_cons (lit_pe (ρ := ρF trowsF1) 5 _ (lrD (rowsF.getD 1 row0)) (by kernel_rfl)).1 pa_nil)))
 (pss_cons (ps_expr (pe_bm PySem.F.plainAttrs_list PySem.F.slot_list_append PySem.F.type_list_append mt_append (pv 1) (pa_cons (lit_pe (ρ := ρF trowsF1) 5 _ (lrD (rowsF.getD 2 row0)) (by kernel_rfl)).1 pa_nil)))
 (pss_cons (ps_set (i := 0) scFar.nd rfl (.inl rfl) pe_str)
 (pss_cons (ps_expr (pe_bm PySem.F.plainAttrs_list PySem.F.slot_list_append PySem.F.type_list_append mt_append (pv 1) (pa_cons (lit_pe (ρ := ρF trowsF2) 5 _ (lrD (rowsF.getD 3 row0)) (by kernel_rfl)).1 pa_nil)))
 (pss_cons (ps_expr (pe_bm PySem.F.plainAttrs_list PySem.F.slot_list_append PySem.F.type_list_append mt_append (pv 1) (pa_cons (lit_pe (ρ := ρF trowsF2) 5 _ (lrD (rowsF.getD 4 row0)) (by kernel_rfl)).1 pa_nil)))
 (pss_cons (ps_expr (pe_bm PySem.F.plainAttrs_list PySem.F.slot_list_append PySem.F.type_list_append mt_append (pv 1) (pa_cons (lit_pe (ρ := ρF trowsF2) 5 _ (lrD (rowsF.getD 5 row0)) (by kernel_rfl)).1 pa_nil)))
 (pss_cons (ps_expr (pe_bm PySem.F.plainAttrs_list PySem.F.slot_list_append PySem.F.type_list_append mt_append (pv 1) (pa_cons (lit_pe (ρ := ρF trowsF2) 5 _ (lrD (rowsF.getD 6 row0)) (by kernel_rfl)).1 pa_nil)))
 (pss_cons (ps_expr (pe_bm PySem.F.plainAttrs_list PySem.F.slot_list_append PySem.F.type_list_append mt_append (pv 1) (pa_cons (lit_pe (ρ := ρF trowsF2) 5 _ (lrD (rowsF.getD 7 row0)) (by kernel_rfl)).1 pa_nil)))
 (pss_cons (ps_expr (pe_bm PySem.F.plainAttrs_list PySem.F.slot_list_append PySem.F.type_list_append mt_append (pv 1) (pa_cons (lit_pe (ρ := ρF trowsF2) 5 _ (lrD (rowsF.getD 8 row0)) (by kernel_rfl)).1 pa_nil)))
 (pss_cons (ps_expr (pe_bm PySem.F.plainAttrs_list PySem.F.slot_list_append PySem.F.type_list_append mt_append (pv 1) (pa_cons (lit_pe (ρ := ρF trowsF2) 5 _ (lrD (rowsF.getD 9 row0)) (by kernel_rfl)).1 pa_nil)))
 (pss_cons (ps_expr (pe_bm PySem.F.plainAttrs_list PySem.F.slot_list_append PySem.F.type_list_append mt_append (pv 1) (pa_cons (lit_pe (ρ := ρF trowsF2) 5 _ (lrD (rowsF.getD 10 row0)) (by kernel_rfl)).1 pa_nil)))
 (pss_cons (ps_expr (pe_bm PySem.F.plainAttrs_list PySem.F.slot_list_append PySem.F.type_list_append mt_append (pv 1) (pa_cons (lit_pe (ρ := ρF trowsF2) 5 _ (lrD (rowsF.getD 11 row0)) (by kernel_rfl)).1 pa_nil)))
 (pss_cons (ps_expr (pe_bm PySem.F.plainAttrs_list PySem.F.slot_list_append PySem.F.type_list_append mt_append (pv 1) (pa_cons (lit_pe (ρ := ρF trowsF2) 5 _ (lrD (rowsF.getD 12 row0)) (by kernel_rfl)).1 pa_nil)))
 (pss_cons (ps_expr (pe_bm PySem.F.plainAttrs_list PySem.F.slot_list_append PySem.F.type_list_append mt_append (pv 1) (pa_cons (lit_pe (ρ := ρF trowsF2) 5 _ (lrD (rowsF.getD 13 row0)) (by kernel_rfl)).1 pa_nil)))
 (pss_cons (ps_expr (pe_bm PySem.F.plainAttrs_list PySem.F.slot_list_append PySem.F.type_list_append mt_append (pv 1) (pa_cons (lit_pe (ρ := ρF trowsF2) 5 _ (lrD (rowsF.getD 14 row0)) (by kernel_rfl)).1 pa_nil)))
 (pss_cons (ps_expr (pe_bm PySem.F.plainAttrs_list PySem.F.slot_list_append PySem.F.type_list_append mt_append (pv 1) (pa_cons (lit_pe (ρ := ρF trowsF2) 5 _ (lrD (rowsF.getD 15 row0)) (by kernel_rfl)).1 pa_nil)))
 (pss_one (ps_ret (pv 1))))))))))))))))))))), ?_⟩
    refine ⟨nm_far (fun pos => pv 0) rfl, fun v H1 s1 d1 o1 => ⟨by show 1 ≤ sizeLine; decide, fun p np => ?_⟩⟩
    have R := Rs.one s1 np d1
    refine st_row R (by decide) (nm_far (fun pos => pv 0) rfl) rfl fun G R => ?_
    refine st_row R (by decide) (nm_far (fun pos => pv 0) rfl) rfl fun G R => ?_
    refine st_row R (by decide) (nm_far (fun pos => pv 0) rfl) rfl fun G R => ?_
    refine st_row R (by decide) (nm_far (fun pos => pv 0) rfl) rfl fun G R => ?_
    refine st_row R (by decide) (nm_far (fun pos => pv 0) rfl) rfl fun G R => ?_
    refine st_row R (by decide) (nm_far (fun pos => pv 0) rfl) rfl fun G R => ?_
    refine st_row R (by decide) (nm_far (fun pos => pv 0) rfl) rfl fun G R => ?_
    refine st_row R (by decide) (nm_far (fun pos => pv 0) rfl) rfl fun G R => ?_
    refine st_row R (by decide) (nm_far (fun pos => pv 0) rfl) rfl fun G R => ?_
    refine st_row R (by decide) (nm_far (fun pos => pv 0) rfl) rfl fun G R => ?_
    refine st_row R (by decide) (nm_far (fun pos => pv 0) rfl) rfl fun G R => ?_
    refine st_row R (by decide) (nm_far (fun pos => pv 0) rfl) rfl fun G R => ?_
    refine st_row R (by decide) (nm_far (fun pos => pv 0) rfl) rfl fun G R => ?_
    refine st_row R (by decide) (nm_far (fun pos => pv 0) rfl) rfl fun G R => ?_
    refine st_row R (by decide) (nm_far (fun pos => pv 0) rfl) rfl fun G R => ?_
    exact ⟨_, rfl, k p _ R.done R.new R.at_⟩
end
end IdL
namespace IdL
open PySem L2 TL
abbrev sHand : Stmt := top 108
def NHand : List Str := ["_law_kind", "_law_note", "_law_fail", "_law_undo", "_law_redo", "_law_rows", "_law_text_here"]
theorem scHand : FnScope NHand [] (defScope sHand) := ⟨rfl, rfl, rfl, by decide +kernel, rfl, by decide +kernel, by decide +kernel⟩
def fourL : List Str := ["note", "fail", "undo", "redo"]
def textsL : List Str := [zN, zF, zU, zR]
theorem texts_of : fourL.map (fun kd => textL (rightR kd)) = textsL := by decide +kernel
theorem four_ok : fourL.all (fun kd => decide (kd ∈ kindsB) && (okL (rightR kd) && decide (((linesL (rightR kd)).map (·.length)).sum + (linesL (rightR kd)).length * ("\n" : Str).length ≤ 200000))) = true := by decide +kernel
structure FTxt (K : PySem.W.Frag) (mg : Str → Option Value) (f : Addr) (d : FuncData) : Prop where
  u : Fun K "_law_text" "_law_text" sTxt f d
  b : Binds K d ["_law_rows"] []
  g : mg "_law_text" = some (.ref f)
theorem nm_hand {X : Cx} {t : Option Str} {σ : St} (h1 : ∀ pos, PE X (.Name "_law_note" pos) (tVar 1)) (h2 : ∀ pos, PE X (.Name "_law_fail" pos) (tVar 2)) (h3 : ∀ pos, PE X (.Name "_law_undo" pos) (tVar 3)) (h4 : ∀ pos, PE X (.Name "_law_redo" pos) (tVar 4)) (h6 : ∀ pos, PE X (.Name "_law_text_here" pos) (tVar 6))
    (e1 : σ[1]? = some (some (.str zN))) (e2 : σ[2]? = some (some (.str zF))) (e3 : σ[3]? = some (some (.str zU))) (e4 : σ[4]? = some (some (.str zR))) (e6 : ∀ y, t = some y → σ[6]? = some (some (.str y))) : NmOk X (ρH t) σ := fun x z e => by
  unfold ρH at e
  split at e
  · rename_i y; subst y; exact ⟨6, h6, e6 _ e⟩
  split at e
  · rename_i y; subst y; cases e; exact ⟨1, h1, e1⟩
  split at e
  · rename_i y; subst y; cases e; exact ⟨2, h2, e2⟩
  split at e
  · rename_i y; subst y; cases e; exact ⟨3, h3, e3⟩
  split at e
  · rename_i y; subst y; cases e; exact ⟨4, h4, e4⟩
  · cases e
section
variable {P : Program} {w : World} {K : PySem.W.Frag} {mg : Str → Option Value} {base : Heap}
theorem ok_hand {f fT fR : Addr} {fd dT dR : FuncData} (F : Fun K "_law_hand_rows" "_law_hand_rows" sHand f fd) (TX : FTxt K mg fT dT) (OTx : FnOk P w K mg base CX0 5 fT dT ["_law_rows"] spTxt) (RG : FRight K mg fR dR) (ORg : FnOk P w K mg base CX0 3 fR dR ["_law_kind"] spRight) :
    FnOk P w K mg base CX0 6 f fd [] (spRows K rowsH) := by
  refine F.ok scHand (fun vs H Q E h => ?_) (fun cdv A outer s H vs Q E hr h => ?_)
  · obtain ⟨rfl, _⟩ := h
    rfl
  · obtain ⟨rfl, k⟩ := h
    have hr5 := hr.mono (show 5 ≤ 5 by decide)
    have hr3 := hr.mono (show 3 ≤ 5 by decide)
    refine ⟨_, (pss_cons (ps_asg (pe_lc (own := [("_law_kind", 0)]) (g := (gName 0)) (by rfl) scHand.nd (pi_tup (pe_tup (pa_cons pe_str (pa_cons pe_str (pa_cons pe_str (pa_cons pe_str pa_nil)))))) (blkOk_by (N := NHand) (sc := defScope sHand) (by decide +kernel)) (fun _ _ _ _ _ => (pg_name (i := 0) scHand.nd rfl (.inl rfl))) (fun _ _ _ _ _ => pts_nil) (fun _ _ _ _ _ => (pe_call OTx hr5 rfl TX.g TX.u.kp TX.b .nil pass0 (pa_cons (pe_call ORg hr3 rfl RG.g RG.u.kp RG.b .nil pass0 (pa_cons (pv 0) pa_nil)) pa_nil)))) (pg_unl rfl (pgs_cons (pg_name (i := 1) scHand.nd rfl (.inl rfl)) (pgs_cons (pg_name (i := 2) scHand.nd rfl (.inl rfl)) (pgs_cons (pg_name (i := 3) scHand.nd rfl (.inl rfl)) (pgs_cons (pg_name (i := 4) scHand.nd rfl (.inl rfl)) pgs_nil))))))
 (pss_cons (ps_set (i := 5) scHand.nd rfl (.inl rfl) (pe_lst (pa_cons (lit_pe (ρ := ρH none) 5 _ (lrD (rowsH.getD 0 row0)) (by kernel_rfl)).1 pa_nil)))
 (pss_cons (ps_expr (pe_bm PySem.F.plainAttrs_list PySem.F.slot_list_append PySem.F.type_list_append mt_append (pv 5) (pa_cons (lit_pe (ρ := ρH none) 5 _ (lrD (rowsH.getD 1 row0)) (by kernel_rfl)).1 pa_nil)))
 (pss_cons (ps_expr (pe_bm PySem.F.plainAttrs_list PySem.F.slot_list_append PySem.F.type_list_append mt_append (pv 5) (pa_cons (lit_pe (ρ := ρH none) 5 _ (lrD (rowsH.getD 2 row0)) (by kernel_rfl)).1 pa_nil)))
 (pss_cons (ps_expr (pe_bm PySem.F.plainAttrs_list PySem.F.slot_list_append PySem.F.type_list_append mt_append (pv 5) (pa_cons (lit_pe (ρ := ρH none) 5 _ (lrD (rowsH.getD 3 row0)) (by kernel_rfl)).1 pa_nil)))
 (pss_cons (ps_expr (pe_bm PySem.F.plainAttrs_list PySem.F.slot_list_append PySem.F.type_list_append mt_append (pv 5) (pa_cons (lit_pe (ρ := ρH none) 5 _ (lrD (rowsH.getD 4 row0)) (by kernel_rfl)).1 pa_nil)))
 (pss_cons (ps_expr (pe_bm PySem.F.plainAttrs_list PySem.F.slot_list_append PySem.F.type_list_append mt_append (pv 5) (pa_cons (lit_pe (ρ := ρH none) 5 _ (lrD (rowsH.getD 5 row0)) (by kernel_rfl)).1 pa_nil)))
 (pss_cons (ps_expr (pe_bm PySem.F.plainAttrs_list PySem.F.slot_list_append PySem.F.type_list_append mt_append (pv 5) (pa_cons (lit_pe (ρ := ρH none) 5 _ (lrD (rowsH.getD 6 row0)) (by kernel_rfl)).1 pa_nil)))
 (pss_cons (ps_expr (pe_bm PySem.F.plainAttrs_list PySem.F.slot_list_append PySem.F.type_list_append mt_append (pv 5) (pa_cons (lit_pe (ρ := ρH none) 5 _ (lrD (rowsH.getD 7 row0)) (by kernel_rfl)).1 pa_nil)))
 (pss_cons (ps_expr (pe_bm PySem.F.plainAttrs_list PySem.F.slot_list_append PySem.F.type_list_append mt_append (pv 5) (pa_cons (lit_pe (ρ := ρH none) 5 _ (lrD (rowsH.getD 8 row0)) (by kernel_rfl)).1 pa_nil)))
 (pss_cons (ps_expr (pe_bm PySem.F.plainAttrs_list PySem.F.slot_list_append PySem.F.type_list_append mt_append (pv 5) (pa_cons (lit_pe (ρ := ρH none) 5 _ (lrD (rowsH.getD 9 row0)) (by kernel_rfl)).1 pa_nil)))
 (pss_cons (ps_expr (pe_bm PySem.F.plainAttrs_list PySem.F.slot_list_append PySem.F.type_list_append mt_append (pv 5) (pa_cons (lit_pe (ρ := ρH none) 5 _ (lrD (rowsH.getD 10 row0)) (by kernel_rfl)).1 pa_nil)))
 (pss_cons (ps_expr (pe_bm PySem.F.plainAttrs_list PySem.F.slot_list_append PySem.F.type_list_append mt_append (pv 5) (pa_cons (lit_pe (ρ := ρH none) 5 _ (lrD (rowsH.getD 11 row0)) (by kernel_rfl)).1 pa_nil)))
 (pss_cons (ps_expr (pe_bm PySem.F.plainAttrs_list PySem.F.slot_list_append PySem.F.type_list_append mt_append (pv 5) (pa_cons (lit_pe (ρ := ρH none) 5 _ (lrD (rowsH.getD 12 row0)) (by kernel_rfl)).1 pa_nil)))
 (pss_cons (ps_expr (pe_bm PySem.F.plainAttrs_list PySem.F.slot_list_append PySem.F.type_list_append mt_append (pv 5) (pa_cons (lit_pe (ρ := ρH none) 5 _ (lrD (rowsH.getD 13 row0)) (by kernel_rfl)).1 pa_nil)))
 (pss_cons (ps_expr (pe_bm PySem.F.plainAttrs_list PySem.F.slot_list_append PySem.F.type_list_append mt_append (pv 5) (pa_cons (lit_pe (ρ := ρH none) 5 _ (lrD (rowsH.getD 14 row0)) (by kernel_rfl)).1 pa_nil)))
 (pss_cons (ps_set (i := 6) scHand.nd rfl (.inl rfl) pe_str)
 (pss_cons (ps_expr (pe_bm PySem.F.plainAttrs_list PySem.F.slot_list_append PySem.F.type_list_append mt_append (pv 5) (pa_cons (lit_pe (ρ := ρH (some trowsH1)) 5 _ (lrD (rowsH.getD 15 row0)) (by kernel_rfl)).1 pa_nil)))
 (pss_cons (ps_expr (pe_bm PySem.F.plainAttrs_list PySem.F.slot_list_append PySem.F.type_list_append mt_append (pv 5) (pa_cons (lit_pe (ρ := ρH (some trowsH1)) 5 _ (lrD (rowsH.getD 16 row0)) (by kernel_rfl)).1 pa_nil)))
 (pss_cons (ps_expr (pe_bm PySem.F.plainAttrs_list PySem.F.slot_list_append PySem.F.type_list_append mt_append (pv 5) (pa_cons (lit_pe (ρ := ρH (some trowsH1)) 5 _ (lrD (rowsH.getD 17 row0)) (by kernel_rfl)).1 pa_nil)))
 (pss_cons (ps_set (i := 6) scHand.nd rfl (.inl rfl) pe_str)
 (pss_cons (ps_expr (pe_bm PySem.F.plainAttrs_list PySem.F.slot_list_append PySem.F.type_list_append mt_append (pv 5) (pa_cons (lit_pe (ρ := ρH (some trowsH2)) 5 _ (lrD (rowsH.getD 18 row0)) (by kernel_rfl)).1 pa_nil)))
 (pss_cons (ps_expr (pe_bm PySem.F.plainAttrs_list PySem.F.slot_list_append PySem.F.type_list_append mt_append (pv 5) (pa_cons (lit_pe (ρ := ρH (some trowsH2)) 5 _ (lrD (rowsH.getD 19 row0)) (by kernel_rfl)).1 pa_nil)))
 (pss_one (ps_ret (pv 5)))))))))))))))))))))))))), ?_⟩
    refine ⟨by show 4 ≤ sizeLine; decide, fun t nt => ⟨t, rfl, ⟨_, SqT.of upd_same⟩, fun D nD => ?_⟩⟩
    have st := same_new (o := .tup (fourL.map V.str)) nt
    have nD : upd H t (.tup (fourL.map V.str)) D = none := nD
    have nDH : H D = none := by
      cases e : H D with
      | none => rfl
      | some o => rw [st _ _ e] at nD; cases nD
    have ntD : t ≠ D := fun y => by rw [← y, upd_same] at nD; cases nD
    refine lc_tup (K := K) (a := t) (xs := fourL.map V.str) (fun j G => Same H G ∧ G t = some (.tup (fourL.map V.str)) ∧ G D = some (.lst ((textsL.take j).map V.str))) ⟨fun a o e => (same_new nD) _ _ (st _ _ e), (same_new nD) _ _ upd_same, upd_same⟩ (fun i G _ ⟨_, e, _⟩ => SqT.of e) ?_ ?_
    · rintro j x G hj ⟨sG, tG, dG⟩
      rw [List.getElem?_map] at hj
      obtain ⟨kd, hkd, rfl⟩ := Option.map_eq_some_iff.mp hj
      have mk := List.mem_of_getElem? hkd
      obtain ⟨f1, f2⟩ := and_t (List.all_eq_true.mp four_ok kd mk)
      obtain ⟨f2, f3⟩ := and_t f2
      have lj : j < 4 := (List.getElem?_eq_some_iff.mp hkd).1
      have et : textsL[j]? = some (textL (rightR kd)) := by
        rw [← texts_of, List.getElem?_map, hkd]; rfl
      refine ⟨rfl, .str kd, rfl, kd, rfl, of_decide_eq_true f1, fun a G1 s1 LA => ⟨a, rightR kd, rfl, LA, f2, of_decide_eq_true f3, fun G2 s2 => ?_⟩⟩
      have dG2 := s2 _ _ (s1 _ _ dG)
      refine ⟨_, dG2, (by rw [List.length_map, List.length_take, sizeLine_eq]; omega), fun a o e => ?_, ?_, ?_⟩
      · rw [upd_ne (fun y => by rw [y, nDH] at e; cases e)]
        exact s2 _ _ (s1 _ _ (sG _ _ e))
      · rw [upd_ne ntD]; exact s2 _ _ (s1 _ _ tG)
      · rw [upd_same, take_snoc_ et, List.map_append]; rfl
    rintro G ⟨sG, _, dG⟩
    refine ⟨D, _, rfl, SqL.of dG, rfl, _, _, rfl, _, _, rfl, _, _, rfl, _, _, rfl, rfl, ?_⟩
    refine ⟨nm_hand (fun pos => pv 1) (fun pos => pv 2) (fun pos => pv 3) (fun pos => pv 4) (fun pos => pv 6) rfl rfl rfl rfl (fun y e => by cases e), fun v H1 s1 d1 o1 => ⟨by show 1 ≤ sizeLine; decide, fun p np => ?_⟩⟩
    have sH1 : Same H H1 := fun a o e => s1 a o (sG a o e)
    have R := Rs.one sH1 np d1
    refine st_row R (by decide) (nm_hand (fun pos => pv 1) (fun pos => pv 2) (fun pos => pv 3) (fun pos => pv 4) (fun pos => pv 6) rfl rfl rfl rfl (fun y e => by first | (cases e; rfl) | cases e)) rfl fun G R => ?_
    refine st_row R (by decide) (nm_hand (fun pos => pv 1) (fun pos => pv 2) (fun pos => pv 3) (fun pos => pv 4) (fun pos => pv 6) rfl rfl rfl rfl (fun y e => by first | (cases e; rfl) | cases e)) rfl fun G R => ?_
    refine st_row R (by decide) (nm_hand (fun pos => pv 1) (fun pos => pv 2) (fun pos => pv 3) (fun pos => pv 4) (fun pos => pv 6) rfl rfl rfl rfl (fun y e => by first | (cases e; rfl) | cases e)) rfl fun G R => ?_
    refine st_row R (by decide) (nm_hand (fun pos => pv 1) (fun pos => pv 2) (fun pos => pv 3) (fun pos => pv 4) (fun pos => pv 6) rfl rfl rfl rfl (fun y e => by first | (cases e; rfl) | cases e)) rfl fun G R => ?_
    refine st_row R (by decide) (nm_hand (fun pos => pv 1) (fun pos => pv 2) (fun pos => pv 3) (fun pos => pv 4) (fun pos => pv 6) rfl rfl rfl rfl (fun y e => by first | (cases e; rfl) | cases e)) rfl fun G R => ?_
    refine st_row R (by decide) (nm_hand (fun pos => pv 1) (fun pos => pv 2) (fun pos => pv 3) (fun pos => pv 4) (fun pos => pv 6) rfl rfl rfl rfl (fun y e => by first | (cases e; rfl) | cases e)) rfl fun G R => ?_
    refine st_row R (by decide) (nm_hand (fun pos => pv 1) (fun pos => pv 2) (fun pos => pv 3) (fun pos => pv 4) (fun pos => pv 6) rfl rfl rfl rfl (fun y e => by first | (cases e; rfl) | cases e)) rfl fun G R => ?_
    refine st_row R (by decide) (nm_hand (fun pos => pv 1) (fun pos => pv 2) (fun pos => pv 3) (fun pos => pv 4) (fun pos => pv 6) rfl rfl rfl rfl (fun y e => by first | (cases e; rfl) | cases e)) rfl fun G R => ?_
    refine st_row R (by decide) (nm_hand (fun pos => pv 1) (fun pos => pv 2) (fun pos => pv 3) (fun pos => pv 4) (fun pos => pv 6) rfl rfl rfl rfl (fun y e => by first | (cases e; rfl) | cases e)) rfl fun G R => ?_
    refine st_row R (by decide) (nm_hand (fun pos => pv 1) (fun pos => pv 2) (fun pos => pv 3) (fun pos => pv 4) (fun pos => pv 6) rfl rfl rfl rfl (fun y e => by first | (cases e; rfl) | cases e)) rfl fun G R => ?_
    refine st_row R (by decide) (nm_hand (fun pos => pv 1) (fun pos => pv 2) (fun pos => pv 3) (fun pos => pv 4) (fun pos => pv 6) rfl rfl rfl rfl (fun y e => by first | (cases e; rfl) | cases e)) rfl fun G R => ?_
    refine st_row R (by decide) (nm_hand (fun pos => pv 1) (fun pos => pv 2) (fun pos => pv 3) (fun pos => pv 4) (fun pos => pv 6) rfl rfl rfl rfl (fun y e => by first | (cases e; rfl) | cases e)) rfl fun G R => ?_
    refine st_row R (by decide) (nm_hand (fun pos => pv 1) (fun pos => pv 2) (fun pos => pv 3) (fun pos => pv 4) (fun pos => pv 6) rfl rfl rfl rfl (fun y e => by first | (cases e; rfl) | cases e)) rfl fun G R => ?_
    refine st_row R (by decide) (nm_hand (fun pos => pv 1) (fun pos => pv 2) (fun pos => pv 3) (fun pos => pv 4) (fun pos => pv 6) rfl rfl rfl rfl (fun y e => by first | (cases e; rfl) | cases e)) rfl fun G R => ?_
    refine st_row R (by decide) (nm_hand (fun pos => pv 1) (fun pos => pv 2) (fun pos => pv 3) (fun pos => pv 4) (fun pos => pv 6) rfl rfl rfl rfl (fun y e => by first | (cases e; rfl) | cases e)) rfl fun G R => ?_
    refine st_row R (by decide) (nm_hand (fun pos => pv 1) (fun pos => pv 2) (fun pos => pv 3) (fun pos => pv 4) (fun pos => pv 6) rfl rfl rfl rfl (fun y e => by first | (cases e; rfl) | cases e)) rfl fun G R => ?_
    refine st_row R (by decide) (nm_hand (fun pos => pv 1) (fun pos => pv 2) (fun pos => pv 3) (fun pos => pv 4) (fun pos => pv 6) rfl rfl rfl rfl (fun y e => by first | (cases e; rfl) | cases e)) rfl fun G R => ?_
    refine st_row R (by decide) (nm_hand (fun pos => pv 1) (fun pos => pv 2) (fun pos => pv 3) (fun pos => pv 4) (fun pos => pv 6) rfl rfl rfl rfl (fun y e => by first | (cases e; rfl) | cases e)) rfl fun G R => ?_
    refine st_row R (by decide) (nm_hand (fun pos => pv 1) (fun pos => pv 2) (fun pos => pv 3) (fun pos => pv 4) (fun pos => pv 6) rfl rfl rfl rfl (fun y e => by first | (cases e; rfl) | cases e)) rfl fun G R => ?_
    exact ⟨_, rfl, k p _ R.done R.new R.at_⟩
end
end IdL
namespace IdL
open PySem L2 TL
/-! ### a case turned -/
abbrev sTurn : Stmt := top 110
theorem scTurn : FnScope ["_law_case", "_law_by"] ["_law_case", "_law_by"] (defScope sTurn) := ⟨rfl, rfl, rfl, by decide +kernel, rfl, by decide +kernel, by decide +kernel⟩
structure FTurn (K : PySem.W.Frag) (mg : Str → Option Value) (f : Addr) (d : FuncData) : Prop where
  u : Fun K "_law_turned" "_law_turned" sTurn f d
  b : Binds K d ["_law_case", "_law_by"] []
  g : mg "_law_turned" = some (.ref f)
def spTurn (K : PySem.W.Frag) : Sp := fun vs H Q _ => ∃ (v : V) (c : Cs) (b : Int), vs = [v, .int b] ∧ CsAt K H v c ∧ 1 ≤ c.sz ∧ ∀ v' H', Same H H' → CsAt K H' v' (turnC c b) → Q v' H'
section
variable {P : Program} {w : World} {K : PySem.W.Frag} {mg : Str → Option Value} {base : Heap}
theorem ok_turn {f : Addr} {fd : FuncData} (F : Fun K "_law_turned" "_law_turned" sTurn f fd) (T : Gv mg) : FnOk P w K mg base CX0 1 f fd ["_law_case", "_law_by"] (spTurn K) := by
  refine F.ok scTurn (fun vs H Q E h => ?_) (fun cdv A outer s H vs Q E hr h => ?_)
  · obtain ⟨v, c, b, rfl, _⟩ := h
    rfl
  · obtain ⟨v, c, b, rfl, CA, hs, k⟩ := h
    refine ⟨_, (pss_one (ps_ret (pe_op op_catT (pe_tup (pa_cons (pe_ix ix_tup (pv 0) pe_int (fun _ _ => rfl)) (pa_cons (pe_op op_modN (pe_callTy call_int1 (by rfl) T.int (by decide +kernel) (pa_cons (pe_op op_add (pe_ix ix_tup (pv 0) pe_int (fun _ _ => rfl)) (pv 1)) pa_nil)) (pe_ix ix_tup (pv 0) pe_int (fun _ _ => rfl))) pa_nil))) (pe_slice sl_tup (pv 0) (po_some pe_int) po_none)))), ?_⟩
    obtain ⟨p, d, m, rfl, h1, h2, h3⟩ := CA.ex
    refine ⟨_, rfl, p, _, 0, _, rfl, rfl, h1, atI_nat (j := 0) rfl, _, rfl, p, _, 1, _, rfl, rfl, h1, atI_nat (j := 1) rfl, _, rfl, _, _, rfl, rfl, .inl ⟨_, rfl, _, rfl, p, _, 0, _, rfl, rfl, h1, atI_nat (j := 0) rfl, _, _, rfl, rfl, ?_⟩⟩
    refine ⟨(by show c.sz ≠ 0; omega), ?_⟩
    show 2 ≤ sizeLine ∧ _
    refine ⟨by decide, fun q hq => ?_⟩
    have e2 : (c.pl + b).fmod c.sz = (c.pl + b) % c.sz := Int.fmod_eq_emod_of_nonneg _ (by omega)
    have z1 : Same H _ := same_new (o := .tup [.int c.sz, .int ((c.pl + b).fmod c.sz)]) hq
    have h1' := sqT_same z1 h1
    refine ⟨_, rfl, _, rfl, p, _, rfl, h1', ?_⟩
    refine ⟨(by show ¬ ((2 : Nat) = 0 ∧ _); exact fun y => absurd y.1 (by decide)), fun r hr => ?_⟩
    have gq : upd H q (.tup [.int c.sz, .int ((c.pl + b).fmod c.sz)]) q = some (.tup [.int c.sz, .int ((c.pl + b).fmod c.sz)]) := upd_same
    have z2 : Same _ _ := same_new (o := .tup [.ref d, .ref m, .int c.ow]) hr
    refine ⟨q, r, [.int c.sz, .int ((c.pl + b).fmod c.sz)], [.ref d, .ref m, .int c.ow], rfl, rfl, SqT.of (z2 _ _ gq), SqT.of upd_same, (fun y => nomatch y), (by show 5 ≤ sizeLine; decide), (fun y => nomatch y), fun _ x hx => ?_⟩
    have z3 : Same _ _ := same_new (o := .tup [.int c.sz, .int ((c.pl + b).fmod c.sz), .ref d, .ref m, .int c.ow]) hx
    have z13 := z1.trans (z2.trans z3)
    refine k _ _ z13 ⟨x, d, m, rfl, ?_, sqT_same z13 h2, sqT_same z13 h3⟩
    show SqT K _ x [.int c.sz, .int ((c.pl + b) % c.sz), .ref d, .ref m, .int c.ow]
    rw [← e2]
    exact SqT.of upd_same
end
end IdL
namespace IdL
open PySem L2 TL
/-! ### the least refused line, found by going all ways -/
def stepF (ds : List PyData) (jmp : List (Key × V)) : Nat → Nat → Option Nat
  | 0, _ => none
  | n + 1, l => if l < ds.length then (if headW (ds.getD l .none) = sEnd then stepF ds jmp n (l + 1) else if headW (ds.getD l .none) = sElse then (match valV jmp (.inl ((l : Int) + 1)) with
      | some (.int j) => if 1 ≤ j then stepF ds jmp n (j - 1).toNat else none
      | _ => none) else some l) else some l
theorem step_of {ds : List PyData} {jmp : List (Key × V)} : ∀ (n l m : Nat), stepF ds jmp n l = some m → StepTo ds jmp l m
  | 0, l, m, h => by cases h
  | n + 1, l, m, h => by
    unfold stepF at h
    split at h
    · rename_i hl
      split at h
      · rename_i h1
        exact .end_ l m hl h1 (step_of n _ _ h)
      · rename_i h1
        split at h
        · rename_i h2
          split at h
          · rename_i j hj
            split at h
            · rename_i hj1
              refine .else_ l (j - 1).toNat m hl h2 ?_ (step_of n _ _ h)
              rw [hj, show (((j - 1).toNat : Nat) : Int) + 1 = j by omega]
            · cases h
          · cases h
        · rename_i h2
          cases h
          exact .stop l fun _ y => by
            rcases y with y | y
            · exact h2 y
            · exact h1 y
    · rename_i hl
      cases h
      exact .stop l fun y => absurd y hl
def waysF (ds : List PyData) (jmp : List (Key × V)) : Nat → Nat → Option (List (List Nat))
  | 0, _ => none
  | n + 1, m => if ds.length ≤ m then some [[]] else if headW (ds.getD m .none) ∈ endL then some [[m]] else
    match stepF ds jmp 50 (m + 1) with
    | none => none
    | some q => match waysF ds jmp n q with
      | none => none
      | some L1 => if headW (ds.getD m .none) = "if" then (match valV jmp (.inl ((m : Int) + 1)) with
          | some (.int j) => if 1 ≤ j then (match stepF ds jmp 50 (j - 1).toNat with
            | none => none
            | some q2 => match waysF ds jmp n q2 with
              | none => none
              | some L2 => some ((L1 ++ L2).map (m :: ·))) else none
          | _ => none) else some (L1.map (m :: ·))
theorem ways_of {ds : List PyData} {jmp : List (Key × V)} : ∀ (n m : Nat) (L : List (List Nat)), waysF ds jmp n m = some L → ∀ ls, ls ∈ L ↔ WayM ds jmp m ls
  | 0, m, L, h => by cases h
  | n + 1, m, L, h => by
    unfold waysF at h
    split at h
    · rename_i hm
      cases h
      intro ls
      rw [List.mem_singleton]
      constructor
      · rintro rfl; exact .over m hm
      · intro y
        cases y with
        | over => rfl
        | ends _ h1 => omega
        | ifA _ _ _ h1 => omega
        | ifB _ _ _ _ h1 => omega
        | pl _ _ _ h1 => omega
    rename_i hm
    have hm' : m < ds.length := Nat.lt_of_not_le hm
    split at h
    · rename_i he
      cases h
      intro ls
      rw [List.mem_singleton]
      constructor
      · rintro rfl; exact .ends m hm' he
      · intro y
        cases y with
        | over _ h1 => omega
        | ends => rfl
        | ifA _ _ _ _ h2 => rw [h2] at he; exact absurd he if_end
        | ifB _ _ _ _ _ h2 => rw [h2] at he; exact absurd he if_end
        | pl _ _ _ _ h2 => exact absurd he h2
    rename_i he
    split at h
    · cases h
    rename_i q hq
    have sq := step_of _ _ _ hq
    split at h
    · cases h
    rename_i L1 hL1
    have w1 := ways_of n q L1 hL1
    split at h
    · rename_i hif
      split at h
      · rename_i j hj
        split at h
        · rename_i hj1
          split at h
          · cases h
          rename_i q2 hq2
          have sq2 := step_of _ _ _ hq2
          split at h
          · cases h
          rename_i L2 hL2
          have w2 := ways_of n q2 L2 hL2
          cases h
          have ej : valV jmp (.inl ((m : Int) + 1)) = some (.int ((((j - 1).toNat : Nat) : Int) + 1)) := by rw [hj, show (((j - 1).toNat : Nat) : Int) + 1 = j by omega]
          intro ls
          rw [List.mem_map]
          constructor
          · rintro ⟨t, ht, rfl⟩
            rcases List.mem_append.mp ht with y | y
            · exact .ifA m q t hm' hif sq ((w1 t).mp y)
            · exact .ifB m _ q2 t hm' hif ej sq2 ((w2 t).mp y)
          · intro y
            cases y with
            | over _ h1 => omega
            | ends _ _ h2 => exact absurd h2 he
            | ifA _ q' t _ _ s r => exact ⟨t, List.mem_append.mpr (.inl ((w1 t).mpr (by rw [sq.one s]; exact r))), rfl⟩
            | ifB _ j' q' t _ _ e s r =>
              have : (j - 1).toNat = j' := by
                rw [ej] at e
                have := V.int.inj (Option.some.inj e)
                omega
              subst this
              exact ⟨t, List.mem_append.mpr (.inr ((w2 t).mpr (by rw [sq2.one s]; exact r))), rfl⟩
            | pl _ _ _ _ _ h2 => exact absurd hif h2
        · cases h
      · cases h
    · rename_i hif
      cases h
      intro ls
      rw [List.mem_map]
      constructor
      · rintro ⟨t, ht, rfl⟩
        exact .pl m q t hm' he hif sq ((w1 t).mp ht)
      · intro y
        cases y with
        | over _ h1 => omega
        | ends _ _ h2 => exact absurd h2 he
        | ifA _ _ _ _ h2 => exact absurd h2 hif
        | ifB _ _ _ _ _ h2 => exact absurd h2 hif
        | pl _ q' t _ _ _ s r => exact ⟨t, (w1 t).mpr (by rw [sq.one s]; exact r), rfl⟩
def stN (kd : Str) : List PyData → Nat → List Nat
  | [], _ => []
  | r :: rs, i => if forB kd r = true then stN kd rs (i + 1) else i :: stN kd rs (i + 1)
theorem mem_stN {kd : Str} : ∀ {rs : List PyData} {i z : Nat}, z ∈ stN kd rs i ↔ ∃ n row, rs[n]? = some row ∧ forB kd row = false ∧ z = i + n
  | [], i, z => by
    constructor
    · intro h; cases h
    · rintro ⟨n, row, h, _⟩; cases h
  | x :: rs, i, z => by
    have e : stN kd (x :: rs) i = if forB kd x = true then stN kd rs (i + 1) else i :: stN kd rs (i + 1) := rfl
    rw [e]
    constructor
    · intro h
      split at h
      · obtain ⟨n, row, h1, h2, h3⟩ := mem_stN.mp h
        exact ⟨n + 1, row, h1, h2, by omega⟩
      · rename_i hx
        rcases List.mem_cons.mp h with h | h
        · exact ⟨0, x, rfl, Bool.eq_false_iff.mpr hx, h⟩
        · obtain ⟨n, row, h1, h2, h3⟩ := mem_stN.mp h
          exact ⟨n + 1, row, h1, h2, by omega⟩
    · rintro ⟨n, row, h1, h2, h3⟩
      cases n with
      | zero =>
        cases h1
        rw [if_neg (by rw [h2]; exact Bool.false_ne_true), h3]
        exact List.mem_cons_self ..
      | succ n =>
        have : z ∈ stN kd rs (i + 1) := mem_stN.mpr ⟨n, row, h1, h2, by omega⟩
        split
        · exact this
        · exact List.mem_cons_of_mem _ this
def minN : List Nat → Option Nat
  | [] => none
  | a :: l => match minN l with
    | none => some a
    | some b => some (if a ≤ b then a else b)
theorem min_none : ∀ {l : List Nat}, minN l = none → l = []
  | [], _ => rfl
  | a :: l, h => by
    unfold minN at h
    split at h <;> cases h
theorem min_some : ∀ {l : List Nat} {n : Nat}, minN l = some n → n ∈ l ∧ ∀ m ∈ l, n ≤ m
  | [], n, h => by cases h
  | a :: l, n, h => by
    unfold minN at h
    split at h
    · rename_i h1
      cases h
      rw [min_none h1]
      exact ⟨List.mem_cons_self .., fun m hm => by rw [List.mem_singleton.mp hm]; exact Nat.le_refl _⟩
    · rename_i b hb
      obtain ⟨h1, h2⟩ := min_some hb
      cases h
      by_cases e : a ≤ b
      · rw [if_pos e]
        refine ⟨List.mem_cons_self .., fun m hm => ?_⟩
        rcases List.mem_cons.mp hm with y | y
        · omega
        · have := h2 m y; omega
      · rw [if_neg e]
        refine ⟨List.mem_cons_of_mem _ h1, fun m hm => ?_⟩
        rcases List.mem_cons.mp hm with y | y
        · omega
        · exact h2 m y
def leastF (kd : Str) (ds : List PyData) (jmp : List (Key × V)) : Option (Option Nat) :=
  match stepF ds jmp 50 0 with
  | none => none
  | some q => match waysF ds jmp 50 q with
    | none => none
    | some L => some (minN (stN kd ds 0 ++ L.filterMap fun ls => wayGoB ds ls fun _ => 0))
theorem least_of {kd : Str} {ds : List PyData} {jmp : List (Key × V)} {r : Option Nat} (h : leastF kd ds jmp = some r) : LeastP kd ds jmp r := by
  unfold leastF at h
  split at h
  · cases h
  rename_i q hq
  split at h
  · cases h
  rename_i L hL
  have sq := step_of _ _ _ hq
  have wq := ways_of _ _ _ hL
  have hm : ∀ n, n ∈ stN kd ds 0 ++ (L.filterMap fun ls => wayGoB ds ls fun _ => 0) ↔ RefdP kd ds jmp n := fun n => by
    rw [List.mem_append, List.mem_filterMap, mem_stN]
    constructor
    · rintro (⟨i, row, h1, h2, h3⟩ | ⟨ls, h1, h2⟩)
      · rw [Nat.zero_add] at h3
        subst h3
        exact .inl ⟨row, h1, h2⟩
      · exact .inr ⟨ls, (way_at sq ls).mpr ((wq ls).mp h1), h2⟩
    · rintro (⟨row, h1, h2⟩ | ⟨ls, h1, h2⟩)
      · exact .inl ⟨n, row, h1, h2, by omega⟩
      · exact .inr ⟨ls, (wq ls).mpr ((way_at sq ls).mp h1), h2⟩
  generalize stN kd ds 0 ++ (L.filterMap fun ls => wayGoB ds ls fun _ => 0) = tot at *
  have h := Option.some.inj h
  cases r with
  | none =>
    intro n hn
    have := (hm n).mpr hn
    rw [min_none h] at this
    exact absurd this List.not_mem_nil
  | some n =>
    obtain ⟨h1, h2⟩ := min_some h
    exact ⟨(hm n).mp h1, fun m y => h2 m ((hm m).mpr y)⟩
/-- no line of a row's text is refused -/
def keepsB (r : Row) : Bool := match codeM bookD 30 6 r.z with
  | .ok _ ds jm => decide (leastF r.kd ds jm = some none) && (decide (r.kd ∈ kindsB) && decide (r.z.length ≤ 900000))
  | _ => false
theorem keeps0_ok : rows0.all keepsB = true := by decide +kernel
theorem keeps1_ok : rows1.all keepsB = true := by decide +kernel
theorem keeps2_ok : rows2.all keepsB = true := by decide +kernel
theorem keeps3_ok : rows3.all keepsB = true := by decide +kernel
theorem keeps4_ok : rows4.all keepsB = true := by decide +kernel
theorem keeps5_ok : rows5.all keepsB = true := by decide +kernel
end IdL
namespace IdL
open PySem L2 TL
/-! ### what is known of each row, by computing -/
theorem valI_none {l : List (Int × Int)} {k : Int} (h : ∀ p ∈ l, p.1 ≠ k) : (l.any fun p => decide (p.1 = k)) = false := by
  rw [List.any_eq_false]
  intro p hp
  simp [h p hp]
theorem merge_go : ∀ (l pre : List (Int × Int)), ((pre ++ l).map (·.1)).Nodup → mergeK (sealK pre) (sealK l) = sealK (pre ++ l)
  | [], pre, _ => by rw [List.append_nil]; rfl
  | p :: l, pre, h => by
    have hn : ∀ q ∈ pre, q.1 ≠ p.1 := fun q hq e => by
      rw [List.map_append, List.nodup_append] at h
      exact h.2.2 q.1 (List.mem_map_of_mem hq) p.1 (by rw [List.map_cons]; exact List.mem_cons_self ..) e
    have e : putK (sealK pre) (.inl p.1 : Key) (.int p.2) = sealK (pre ++ [p]) := by
      rw [put_seal]
      unfold putI
      rw [valI_none hn, if_neg Bool.false_ne_true]
    show mergeK (putK (sealK pre) (.inl p.1 : Key) (.int p.2)) (sealK l) = _
    rw [e, merge_go l (pre ++ [p]) (by rw [List.append_assoc]; exact h), List.append_assoc]
    rfl
theorem merge_seal {l : List (Int × Int)} (h : (l.map (·.1)).Nodup) : mergeK [] (sealK l) = sealK l := merge_go l [] h
def csB (kd : Str) (c : Cs) : Bool := decide (1 ≤ c.sz) && (decide (c.sz ≤ 1000) && (decide (0 ≤ c.pl) && (decide (c.pl ≤ c.sz - 1) && ((c.dn.all fun n => decide (1 ≤ n) && decide (n ≤ 1000)) && ((c.mo.all fun n => decide (1 ≤ n) && decide (n ≤ 1000)) && (decide (0 ≤ c.ow) && (decide (c.ow ≤ 1000) && ((!decide (0 < c.ow) || (decide (c.mo = []) && (decide (kd ≠ "undo") && decide (kd ≠ "redo")))) && (decide (c.dn.sum + c.mo.sum + c.ow ≤ c.sz) && (decide (c.dn.length ≤ 1000) && decide (c.mo.length ≤ 1000)))))))))))
theorem cs_ok {kd : Str} {c : Cs} (h : csB kd c = true) : CsOk 1 0 kd c ∧ CsS c := by
  unfold csB at h
  simp only [Bool.and_eq_true, decide_eq_true_eq, List.all_eq_true, Bool.or_eq_true, Bool.not_eq_true', decide_eq_false_iff_not] at h
  obtain ⟨h1, h2, h3, h4, h5, h6, h7, h8, h9, h10, h11, h12⟩ := h
  refine ⟨?_, ?_⟩
  · constructor
    all_goals first | omega | exact h11 | exact h12 | (intro n hn; exact (h5 n hn).1) | (intro n hn; exact (h6 n hn).1) | skip
    · intro ho
      rcases h9 with h9 | h9
      · exact absurd ho h9
      · exact h9
  · exact ⟨h1, h7, by omega, fun n hn => ⟨(h5 n hn).1, by have := (h5 n hn).2; omega⟩, fun n hn => ⟨(h6 n hn).1, by have := (h6 n hn).2; omega⟩⟩
theorem cs_turn {kd : Str} {c : Cs} (h : CsOk 1 0 kd c) (b : Int) : CsOk 1 0 kd (turnC c b) := by
  have s1 := h.s1
  have p0 := Int.emod_nonneg (c.pl + b) (show c.sz ≠ 0 by omega)
  have p1 := Int.emod_lt_of_pos (c.pl + b) (show 0 < c.sz by omega)
  cases h
  constructor <;> first | assumption | (show 0 ≤ (c.pl + b) % c.sz; exact p0) | (show (c.pl + b) % c.sz ≤ c.sz - 1; omega)
theorem css_turn {c : Cs} (h : CsS c) (b : Int) : CsS (turnC c b) := ⟨h.s1, h.o0, h.o1, h.d, h.m⟩
def linB (z : Str) : Bool := (tl z).all (fun c => decide (c < 128)) && decide (z.length ≤ 90000)
theorem nl_ne : tl ("\n" : Str) ≠ [] := by decide +kernel
theorem lin_ok {z : Str} (h : linB z = true) : Rows (linesOf z) := by
  obtain ⟨h1, h2⟩ := and_t h
  have a : Asc z := fun c hc => of_decide_eq_true (List.all_eq_true.mp h1 c hc)
  have h2 := of_decide_eq_true h2
  unfold linesOf
  split
  · exact ⟨fun l hl => (by cases hl), fun l hl => (by cases hl), by decide⟩
  · have e : (Txt.split z "\n").map tl = spl (tl "\n") 0 [] (tl z) := split_spl z "\n" nl_ne (kind_ok (by decide +kernel))
    have hs : ((Txt.split z "\n").map (·.length)).sum + (Txt.split z "\n").length ≤ 90010 := by
      have h1 : (Txt.split z "\n").map (·.length) = ((Txt.split z "\n").map tl).map List.length := by
        rw [List.map_map]
        exact List.map_congr_left fun z _ => len_tl z
      have h2 : (Txt.split z "\n").length = ((Txt.split z "\n").map tl).length := by rw [List.length_map]
      rw [h1, h2, e]
      have := spl_sum (tl "\n") (tl z) 0 []
      rename_i hz
      have h3 : z.length ≤ 90000 := by assumption
      rw [len_tl] at h3
      simp only [List.length_nil] at this
      omega
    refine ⟨fun l hl c hc => ?_, fun l hl => ?_, by omega⟩
    · have hm : tl l ∈ (Txt.split z "\n").map tl := List.mem_map_of_mem hl
      rw [e] at hm
      rcases spl_mem _ _ _ _ _ hm c hc with h | h
      · cases h
      · exact a c h
    · have := le_sum (List.mem_map_of_mem (f := (·.length)) hl)
      omega
def trB (r : Row) : Bool := r.tr == ((Builtin.Str.occurrences r.z "a = 0" 0 r.z.length 1).isEmpty && !decide (r.z = "back until a"))
def chkB (r : Row) : Bool := csB r.kd r.c && (linB r.z && trB r)
theorem chk_ok : rowsL.all chkB = true := by decide +kernel
theorem row_ok : rowsL.all rowB = true := by
  unfold rowsL
  rw [List.all_append, List.all_append, List.all_append, List.all_append, List.all_append, rows0_ok, rows1_ok, rows2_ok, rows3_ok, rows4_ok, rows5_ok]; rfl
theorem keep_ok : rowsL.all keepsB = true := by
  unfold rowsL
  rw [List.all_append, List.all_append, List.all_append, List.all_append, List.all_append, keeps0_ok, keeps1_ok, keeps2_ok, keeps3_ok, keeps4_ok, keeps5_ok]; rfl
/-- a text and a case that may be played: made, and how it ends -/
structure PlOk (kd z : Str) (c : Cs) (wd : Str) (S : Dk) (br : List Str) : Prop where
  kin : kd ∈ kindsB
  ln : z.length ≤ 900000
  ro : Rows (linesOf z)
  co : CsOk 1 0 kd c
  cs : CsS c
  ex : ∃ rs ds jm fs, codeM bookD 30 6 z = .ok rs ds jm ∧ LeastP kd ds jm none ∧ fmsOf ds = some fs ∧ fs.all okB = true ∧ PlayP fs jm kd c (1 * c.sz + 0) wd S br
theorem pl_of {r : Row} {c : Cs} (hc : CsOk 1 0 r.kd c) (hs : CsS c) (hl : linB r.z = true) (hk : keepsB r = true) {wd : Str} {S : Dk} {br : List Str} (h : runB r.kd r.z c = some (wd, S, br)) : PlOk r.kd r.z c wd S br := by
  obtain ⟨rs, ds, jm, fs, h1, h2, h3, h4⟩ := runB_ok h
  unfold keepsB at hk
  rw [h1] at hk
  obtain ⟨k1, k2⟩ := and_t hk
  obtain ⟨k2, k3⟩ := and_t k2
  exact ⟨of_decide_eq_true k2, of_decide_eq_true k3, lin_ok hl, hc, hs, rs, ds, jm, fs, h1, least_of (of_decide_eq_true k1), h2, h3, h4⟩
/-- the lists and numbers of a play -/
structure Sm (r : Row) (S : Dk) (wd : Str) (b : Int) : Prop where
  wd : wd = r.wd
  wr : S.wr = r.wr.map fun a => (a + b) % r.c.sz
  bk : S.bk = r.bk.map fun a => (a + b) % r.c.sz
  ag : S.ag = r.ag.map fun a => (a + b) % r.c.sz
  many : S.nm .many = r.many
  more : S.nm .more = r.more
  own : S.nm .own = r.own
theorem sm_of {r : Row} {S : Dk} {wd : Str} {br : List Str} {b : Int} (h : sameB r S wd br b = true) : Sm r S wd b := by
  unfold sameB at h
  simp only [Bool.and_eq_true, decide_eq_true_eq] at h
  obtain ⟨h1, h2, h3, h4, h5, h6, h7⟩ := h
  exact ⟨h1, h2, h3, h4, h5, h6, h7⟩
structure RowOk (r : Row) (wd : Str) (S : Dk) (br : List Str) : Prop where
  pl : PlOk r.kd r.z r.c wd S br
  sm : Sm r S wd 0
  bey : decide (wd = "beyond") = decide (br = (["inside"] : List Str))
  tr : ((Builtin.Str.occurrences r.z "a = 0" 0 r.z.length 1).isEmpty && !decide (r.z = "back until a")) = r.tr
  turn : r.tr = true → ∀ b : Nat, (b : Int) < r.c.sz → ∃ S', PlOk r.kd r.z (turnC r.c b) wd S' br ∧ Sm r S' wd b ∧ S'.se.length = S.se.length ∧ S.se.length ≤ 1000 ∧ (∀ p ∈ S'.se, valI (S.se.map fun q => ((q.1 + (b : Int)) % r.c.sz, q.2)) p.1 = some p.2) ∧ (S.se.map fun q => (q.1 + (b : Int)) % r.c.sz).Nodup
theorem row_of {r : Row} (hr : r ∈ rowsL) : ∃ wd S br, RowOk r wd S br := by
  have h1 := List.all_eq_true.mp chk_ok r hr
  have h2 := List.all_eq_true.mp row_ok r hr
  have h3 := List.all_eq_true.mp keep_ok r hr
  obtain ⟨c1, c2⟩ := and_t h1
  obtain ⟨c2, c3⟩ := and_t c2
  obtain ⟨o1, o2⟩ := cs_ok c1
  unfold rowB at h2
  split at h2
  · rename_i wd S br e
    obtain ⟨a1, a2⟩ := and_t h2
    obtain ⟨a2, a3⟩ := and_t a2
    refine ⟨wd, S, br, pl_of o1 o2 c2 h3 e, sm_of a1, eq_of_beq a2, (eq_of_beq c3).symm, fun ht b hb => ?_⟩
    rw [ht] at a3
    have a3 : turnsB r S.se br = true := a3
    have q := List.all_eq_true.mp a3 b (List.mem_range.mpr (by omega))
    split at q
    · rename_i wd' S' br' e'
      obtain ⟨q1, q2⟩ := and_t q
      obtain ⟨q2, q3⟩ := and_t q2
      obtain ⟨q3, q4⟩ := and_t q3
      obtain ⟨q3, q5⟩ := and_t q3
      obtain ⟨q3, q6⟩ := and_t q3
      have eb : br' = br := of_decide_eq_true q2
      have ew : wd' = wd := by rw [(sm_of q1).wd, (sm_of a1).wd]
      subst eb ew
      exact ⟨S', pl_of (cs_turn o1 b) (css_turn o2 b) c2 h3 e', sm_of q1, of_decide_eq_true q3, of_decide_eq_true q6, fun p hp => of_decide_eq_true (List.all_eq_true.mp q5 p hp), of_decide_eq_true q4⟩
    · cases q
  · cases h2
/-- the two last plays -/
def rowA : Row := ⟨"note", zN, ⟨4, 1, [2, 1], [], 1⟩, "done", [], [], [], 0, 0, 0, false⟩
def rowZ : Row := ⟨"fail", "many = 0\nback until mark\nown = 0", ⟨3, 1, [], [], 3⟩, "done", [], [], [], 0, 0, 0, false⟩
def playsB (r : Row) (f : Str → Dk → List Str → Bool) : Bool := match runB r.kd r.z r.c with
  | some (wd, S, br) => f wd S br
  | none => false
theorem ends_ok : (csB rowA.kd rowA.c && (linB rowA.z && (keepsB rowA && playsB rowA fun _ S br => decide (toldF S = [2, 3, 0, 2, 0]) && (decide (S.se = [(2, 2), (3, 1)] ∨ S.se = [(3, 1), (2, 2)]) && decide (br = []))))) && (csB rowZ.kd rowZ.c && (linB rowZ.z && (keepsB rowZ && playsB rowZ fun _ S br => decide (toldF S = [1, 0, 0, 0, 1]) && decide (br = (["rows"] : List Str))))) = true := by decide +kernel
end IdL
namespace IdL
open PySem L2 TL
def inB (r : Row) : Bool := (r.wr.all fun a => decide (0 ≤ a) && decide (a < r.c.sz)) && ((r.bk.all fun a => decide (0 ≤ a) && decide (a < r.c.sz)) && (r.ag.all fun a => decide (0 ≤ a) && decide (a < r.c.sz)))
theorem in_ok : rowsL.all inB = true := by decide +kernel
theorem len_ok : rowsL.all (fun r => decide (r.wr.length ≤ 100) && (decide (r.bk.length ≤ 100) && decide (r.ag.length ≤ 100))) = true := by decide +kernel
theorem len_of {r : Row} (hr : r ∈ rowsL) : r.wr.length ≤ 100 ∧ r.bk.length ≤ 100 ∧ r.ag.length ≤ 100 := by
  obtain ⟨h1, h2⟩ := and_t (List.all_eq_true.mp len_ok r hr)
  obtain ⟨h2, h3⟩ := and_t h2
  exact ⟨of_decide_eq_true h1, of_decide_eq_true h2, of_decide_eq_true h3⟩
theorem map0 {l : List Int} {sz : Int} (h : (l.all fun a => decide (0 ≤ a) && decide (a < sz)) = true) : (l.map fun a => (a + 0) % sz) = l := by
  induction l with
  | nil => rfl
  | cons a l ih =>
    obtain ⟨h1, h2⟩ := and_t h
    obtain ⟨h3, h4⟩ := and_t h1
    have h3 := of_decide_eq_true h3
    have h4 := of_decide_eq_true h4
    rw [List.map_cons, ih h2, Int.add_zero, Int.emod_eq_of_lt h3 h4]
theorem sm_zero {r : Row} {S : Dk} {wd : Str} (hr : r ∈ rowsL) (h : Sm r S wd 0) : S.wr = r.wr ∧ S.bk = r.bk ∧ S.ag = r.ag := by
  obtain ⟨h1, h2⟩ := and_t (List.all_eq_true.mp in_ok r hr)
  obtain ⟨h2, h3⟩ := and_t h2
  exact ⟨by rw [h.wr, map0 h1], by rw [h.bk, map0 h2], by rw [h.ag, map0 h3]⟩
def proL : List Str := ["inside", "full", "rows", "fields"]
theorem broke_in {S : Dk} {ow : Option Ow} {wd z : Str} (h : z ∈ brokeB S ow wd) : z ∈ proL := by
  have a : ∀ {l : List Str}, (∀ y ∈ l, y ∈ proL) → z ∈ l → z ∈ proL := fun h k => h z k
  have hr : ∀ o, ∀ y ∈ rowsB S o, y ∈ proL := fun o y hy => by
    unfold rowsB at hy
    split at hy
    · cases hy
    · rw [List.mem_singleton.mp hy]; decide +kernel
  unfold brokeB at h
  split at h
  · rw [List.mem_singleton.mp h]; decide +kernel
  split at h
  · split at h
    · rw [List.mem_singleton.mp h]; decide +kernel
    · cases h
  split at h
  · rw [List.mem_singleton.mp h]; decide +kernel
  · unfold doneB at h
    split at h
    · exact hr _ _ h
    · rcases List.mem_append.mp h with h | h
      · exact hr _ _ h
      · rw [List.mem_singleton.mp h]; decide +kernel
theorem pro_ok : ∀ z ∈ proL, PyData.strOk z = true := by decide +kernel
theorem br_ok {fs : List Fm} {jm : List (Key × V)} {kd : Str} {c : Cs} {kp : Int} {wd : Str} {S : Dk} {br : List Str} (h : PlayP fs jm kd c kp wd S br) : ∀ z ∈ br, PyData.strOk z = true := by
  obtain ⟨_, _, _, _, e⟩ := h
  intro z hz
  rw [e] at hz
  exact pro_ok z (broke_in hz)
def tS (ws : List Str) : PyData := .tuple (ws.map PyData.str)
theorem tS_dp {K : PySem.W.Frag} {H : Hp} {p : Addr} {ws : List Str} (h : SqT K H p (ws.map V.str)) : Dp K H (.ref p) (tS ws) := .tup h (strs_dp ws)
theorem tS_eqv (a b : List Str) : PyData.eqv (tS a) (tS b) = decide (a = b) := eqv_strs a b
theorem tS_shaped {ws : List Str} (h : ∀ z ∈ ws, PyData.strOk z = true) : SeqAt.shaped (tS ws) = true := by
  unfold SeqAt.shaped
  rw [Bool.and_eq_true]
  refine ⟨by show PyData.canLayAll0 _ = true; exact strs_lay ws h, decide_eq_true ?_⟩
  have := strs_dep ws
  simp only [tS, PyData.depth]
  omega
theorem eq_tS {K : PySem.W.Frag} {H : Hp} {p q : Addr} {ms ns : List Str} (hp : SqT K H p (ms.map V.str)) (hq : SqT K H q (ns.map V.str)) (o1 : ∀ z ∈ ms, PyData.strOk z = true) (o2 : ∀ z ∈ ns, PyData.strOk z = true) {Q : VK} (k : Q (.bl (decide (ms = ns))) H) : rEqD K (.ref p) (.ref q) H Q := by
  refine ⟨tS ms, tS ns, tS_dp hp, tS_dp hq, tS_shaped o1, tS_shaped o2, ?_⟩
  rw [tS_eqv]
  exact k
theorem ne_same {K : PySem.W.Frag} {H : Hp} {x y : V} {d : PyData} (dx : Dp K H x d) (dy : Dp K H y d) (sh : SeqAt.shaped d = true) {Q : VK} (k : Q (.bl false) H) : rNeD K x y H Q := by
  refine ⟨d, d, dx, dy, sh, sh, ?_⟩
  rw [SeqAt.eqv_refl _ (SeqAt.canLay_of_shaped sh)]
  exact k
def partsI (a b c : List Int) : PyData := .tuple [intsD a, intsD b, intsD c]
def listI (a b c : List Int) : PyData := .list [intsD a, intsD b, intsD c]
theorem parts_shaped (a b c : List Int) : SeqAt.shaped (partsI a b c) = true := by
  unfold SeqAt.shaped
  rw [Bool.and_eq_true]
  refine ⟨?_, decide_eq_true ?_⟩
  · show (PyData.canLayAll0 (a.map PyData.int) && (PyData.canLayAll0 (b.map PyData.int) && (PyData.canLayAll0 (c.map PyData.int) && true))) = true
    rw [ints_lay, ints_lay, ints_lay]; rfl
  · have h1 := ints_dep a
    have h2 := ints_dep b
    have h3 := ints_dep c
    simp only [partsI, intsD, PyData.depth, PyData.depthAll]
    omega
theorem list_shaped (a b c : List Int) : SeqAt.shaped (listI a b c) = true := by
  unfold SeqAt.shaped
  rw [Bool.and_eq_true]
  refine ⟨?_, decide_eq_true ?_⟩
  · show (PyData.canLayAll0 (a.map PyData.int) && (PyData.canLayAll0 (b.map PyData.int) && (PyData.canLayAll0 (c.map PyData.int) && true))) = true
    rw [ints_lay, ints_lay, ints_lay]; rfl
  · have h1 := ints_dep a
    have h2 := ints_dep b
    have h3 := ints_dep c
    simp only [listI, intsD, PyData.depth, PyData.depthAll]
    omega
theorem ints_D {K : PySem.W.Frag} {H : Hp} {p : Addr} {l : List Int} (h : H p = some (.lst (l.map V.int))) : Dp K H (.ref p) (intsD l) := .lst (SqL.of h) (ints_dp l)
/-! ### the jumps' keys are numbers -/
def InlK (jmp : List (Key × V)) : Prop := ∀ kv ∈ jmp, ∃ i : Int, kv.1 = .inl i
theorem inl_put {jmp : List (Key × V)} {k : Int} {v : V} (h : InlK jmp) : InlK (putK jmp (.inl k) v) := fun kv hk => by
  unfold putK at hk
  split at hk
  · obtain ⟨q, hq, e⟩ := List.mem_map.mp hk
    split at e
    · rw [← e]; exact h q hq
    · rw [← e]; exact h q hq
  · rcases List.mem_append.mp hk with y | y
    · exact h kv y
    · rw [List.mem_singleton.mp y]; exact ⟨k, rfl⟩
theorem inl_close {el : Bool} {line : Int} {stk : List (Int × Int)} {jmp : List (Key × V)} {q : List (Int × Int) × List (Key × V)} (e : closeM el line stk jmp = some q) (h : InlK jmp) : InlK q.2 := by
  unfold closeM at e
  split at e
  · cases e
  · split at e
    · split at e
      · cases e; exact inl_put h
      · cases e
    · cases e; exact inl_put h
theorem inl_forms {rd : List Str → PyData} : ∀ {rows : List Str} {i : Nat} {fs : List PyData} {stk : List (Int × Int)} {jmp : List (Key × V)} {ds : List PyData} {j : List (Key × V)}, formsGo rd rows i fs stk jmp = .ok (ds, j) → InlK jmp → InlK j
  | [], i, fs, stk, jmp, ds, j, e, h => by
    unfold formsGo at e
    split at e
    · cases e; exact h
    · cases e
  | row :: rows, i, fs, stk, jmp, ds, j, e, h => by
    rw [formsGo_cons] at e
    split at e
    · cases e
    split at e
    · exact inl_forms e h
    split at e
    · split at e
      · cases e
      · rename_i q hq
        exact inl_forms e (inl_close hq h)
    · exact inl_forms e h
theorem inl_code {z : Str} {rs : List Str} {ds : List PyData} {jm : List (Key × V)} (h : codeM bookD 30 6 z = .ok rs ds jm) : InlK jm := inl_forms (codeM_ok h).2.1 (fun _ y => nomatch y)
theorem pen_ninl {jm : List (Key × V)} {l : Addr} {t lf : Int} (h : InlK jm) : jm ≠ penL l t lf := fun e => by
  obtain ⟨i, hi⟩ := h (.inr "cells", .ref l) (by rw [e]; exact List.mem_cons_self ..)
  cases hi
theorem seal_inl (se : List (Int × Int)) : InlK (sealK se) := fun kv h => by
  obtain ⟨q, _, rfl⟩ := List.mem_map.mp h
  exact ⟨q.1, rfl⟩
/-! ### what a draw leaves -/
theorem but_at {b l : Addr} {t lf : Int} {H G : Hp} (s : SameBut b H G) (e : H b = some (.dK (penL l t lf))) {a : Addr} {o : HO} (h : H a = some o) (n : o ≠ .dK (penL l t lf)) : G a = some o := s _ _ (fun y => by rw [y, e] at h; exact n (Option.some.inj h).symm) h
theorem PlAt.but {b l : Addr} {t lf : Int} {H G : Hp} (s : SameBut b H G) (e : H b = some (.dK (penL l t lf))) {px CP : Addr} {wd : Str} {S : Dk} {br : List Str} (h : PlAt H px CP wd S br) : PlAt G px CP wd S br := by
  obtain ⟨dx, a, b', c, d, e', f, h1, h2, h3, h4, h5, h6, h7⟩ := h.ex
  have t : ∀ {a : Addr} {xs : List V}, H a = some (.tup xs) → G a = some (.tup xs) := fun h => but_at s e h (fun y => nomatch y)
  exact ⟨dx, a, b', c, d, e', f, but_at s e h1 (fun y => nomatch y), t h2, t h3, t h4, t h5, but_at s e h6 (fun y => pen_ninl (seal_inl S.se) (HO.dK.inj y)), t h7⟩
theorem CdP.but {b l : Addr} {t lf : Int} {K : PySem.W.Frag} {H G : Hp} (s : SameBut b H G) (e : H b = some (.dK (penL l t lf))) (kt : KeepT H G) {cx CC : Addr} {kd : Str} {rv : V} {fs : List Fm} {jm : List (Key × V)} (n : InlK jm) (h : CdP K H cx CC kd rv fs jm) : CdP K G cx CC kd rv fs jm := by
  obtain ⟨dc, t1, t2, ja, aa, zt, h1, h2, h3⟩ := h.ex
  exact ⟨⟨dc, t1, t2, ja, aa, zt, but_at s e h1 (fun y => nomatch y), h2.keep kt, but_at s e h3 (fun y => pen_ninl n (HO.dK.inj y))⟩, h.jo, h.ln, h.ok⟩
end IdL
namespace IdL
open PySem L2 TL
theorem CdP.same {K : PySem.W.Frag} {H G : Hp} (s : Same H G) {cx CC : Addr} {kd : Str} {rv : V} {fs : List Fm} {jm : List (Key × V)} (h : CdP K H cx CC kd rv fs jm) : CdP K G cx CC kd rv fs jm := by
  obtain ⟨dc, t1, t2, ja, aa, zt, h1, h2, h3⟩ := h.ex
  exact ⟨⟨dc, t1, t2, ja, aa, zt, s _ _ h1, h2.keep (KeepT.of s), s _ _ h3⟩, h.jo, h.ln, h.ok⟩
theorem ints_of {K : PySem.W.Frag} {H : Hp} : ∀ {l : List Int} {vs : List V}, DpAll K H vs (l.map .int) → vs = l.map .int
  | [], _, h => by cases h; rfl
  | n :: l, _, h => by
    cases h with
    | cons h1 h2 => cases h1; rw [ints_of h2]; rfl
theorem intsD_sq {K : PySem.W.Frag} {H : Hp} {v : V} {l : List Int} (h : Dp K H v (intsD l)) : ∃ q, v = .ref q ∧ SqL K H q (l.map V.int) := by
  unfold intsD at h
  cases h with
  | lst hs ha => rw [ints_of ha] at hs; exact ⟨_, rfl, hs⟩
theorem parts_dp {K : PySem.W.Frag} {H : Hp} {v : V} {a b c : List Int} (h : Dp K H v (partsI a b c)) : ∃ q x1 x2 x3, v = .ref q ∧ SqT K H q ([x1, x2, x3].map V.ref) ∧ SqL K H x1 (a.map V.int) ∧ SqL K H x2 (b.map V.int) ∧ SqL K H x3 (c.map V.int) := by
  unfold partsI at h
  cases h with
  | tup hs ha =>
    cases ha with | cons a1 ha => cases ha with | cons a2 ha => cases ha with | cons a3 ha =>
    cases ha
    obtain ⟨x1, rfl, h1⟩ := intsD_sq a1
    obtain ⟨x2, rfl, h2⟩ := intsD_sq a2
    obtain ⟨x3, rfl, h3⟩ := intsD_sq a3
    exact ⟨_, x1, x2, x3, rfl, hs, h1, h2, h3⟩
/-- a list of lists of numbers, none of them the list itself -/
def LiAt (G : Hp) (D : Addr) (ls : List (List Int)) : Prop := ∃ as : List Addr, G D = some (.lst (as.map V.ref)) ∧ Ats (fun a (ns : List Int) => offO D G a = some (.lst (ns.map V.int))) as ls
theorem LiAt.new {G : Hp} {D : Addr} : LiAt (upd G D (.lst [])) D [] := ⟨[], upd_same, .nil⟩
theorem LiAt.len {G : Hp} {D : Addr} {ls : List (List Int)} (h : LiAt G D ls) : ∃ acc, G D = some (.lst acc) ∧ acc.length = ls.length := by
  obtain ⟨as, h1, h2⟩ := h
  exact ⟨_, h1, by rw [List.length_map, h2.len]⟩
/-- one list more -/
theorem LiAt.app {G G1 : Hp} {D E : Addr} {ls : List (List Int)} {ns : List Int} (h : LiAt G D ls) (s : Same G G1) (nE : G E = none) (hE : G1 E = some (.lst (ns.map V.int))) (hl : ls.length ≤ 1000) :
    ∃ acc, G1 D = some (.lst acc) ∧ acc.length < sizeLine ∧ LiAt (upd G1 D (.lst (acc ++ [.ref E]))) D (ls ++ [ns]) := by
  obtain ⟨as, h1, h2⟩ := h
  have nDE : E ≠ D := fun y => by rw [y, h1] at nE; cases nE
  refine ⟨_, s _ _ h1, by rw [List.length_map, h2.len, sizeLine_eq]; omega, as ++ [E], by rw [upd_same, List.map_append]; rfl, ?_⟩
  rw [offO_upd]
  refine (h2.mono fun a r e => ?_).app (.cons ?_ .nil)
  · exact offO_mono s _ _ e
  · show (if E = D then none else G1 E) = _
    rw [if_neg nDE]; exact hE
theorem LiAt.same {G G1 : Hp} {D : Addr} {ls : List (List Int)} (h : LiAt G D ls) (s : Same G G1) : LiAt G1 D ls := by
  obtain ⟨as, h1, h2⟩ := h
  exact ⟨as, s _ _ h1, h2.mono fun a r e => offO_mono s _ _ e⟩
theorem ats_D {K : PySem.W.Frag} {G : Hp} {D : Addr} : ∀ {as : List Addr} {ls : List (List Int)}, Ats (fun a (ns : List Int) => offO D G a = some (.lst (ns.map V.int))) as ls → DpAll K G (as.map V.ref) (ls.map intsD)
  | _, _, .nil => .nil
  | _, _, .cons h t => .cons (ints_D (offO_same _ _ h)) (ats_D t)
theorem LiAt.dp {K : PySem.W.Frag} {G : Hp} {D : Addr} {a b c : List Int} (h : LiAt G D [a, b, c]) : Dp K G (.ref D) (listI a b c) := by
  obtain ⟨as, h1, h2⟩ := h
  exact .lst (SqL.of h1) (ats_D h2)
/-- a list of pairs of numbers -/
def PaAt (G : Hp) (D : Addr) (ls : List (Int × Int)) : Prop := ∃ as : List Addr, G D = some (.lst (as.map V.ref)) ∧ Ats (fun a (q : Int × Int) => offO D G a = some (.tup [.int q.1, .int q.2])) as ls
theorem PaAt.new {G : Hp} {D : Addr} : PaAt (upd G D (.lst [])) D [] := ⟨[], upd_same, .nil⟩
theorem PaAt.app {G G1 : Hp} {D E : Addr} {ls : List (Int × Int)} {q : Int × Int} (h : PaAt G D ls) (s : Same G G1) (nE : G E = none) (hE : G1 E = some (.tup [.int q.1, .int q.2])) (hl : ls.length ≤ 10000) :
    ∃ acc, G1 D = some (.lst acc) ∧ acc.length < sizeLine ∧ PaAt (upd G1 D (.lst (acc ++ [.ref E]))) D (ls ++ [q]) := by
  obtain ⟨as, h1, h2⟩ := h
  have nDE : E ≠ D := fun y => by rw [y, h1] at nE; cases nE
  refine ⟨_, s _ _ h1, by rw [List.length_map, h2.len, sizeLine_eq]; omega, as ++ [E], by rw [upd_same, List.map_append]; rfl, ?_⟩
  rw [offO_upd]
  refine (h2.mono fun a r e => ?_).app (.cons ?_ .nil)
  · exact offO_mono s _ _ e
  · show (if E = D then none else G1 E) = _
    rw [if_neg nDE]; exact hE
theorem ats_P {K : PySem.W.Frag} {G G1 : Hp} {D : Addr} (s : ∀ a xs, G a = some (.tup xs) → G1 a = some (.tup xs)) : ∀ {as : List Addr} {ls : List (Int × Int)}, Ats (fun a (q : Int × Int) => offO D G a = some (.tup [.int q.1, .int q.2])) as ls → Paired (fun (p : Addr) (kv : Key × V) => SqT K G1 p [kV kv.1, kv.2]) as (sealK ls)
  | _, _, .nil => .nil
  | _, _, .cons h t => .cons (SqT.of (s _ _ (offO_same _ _ h))) (ats_P s t)
/-- a dict that was locked meanwhile -/
theorem unlock_same {H G : Hp} {d : Addr} {u : HO} {od : Obj} (e : H d = some u) (s : Same (upd H d (.frz od u)) G) : Same H (upd G d u) := fun a o h => by
  by_cases y : a = d
  · subst y
    rw [e] at h
    cases h
    exact upd_same
  · rw [upd_ne y]
    exact s a o (by rw [upd_ne y]; exact h)
theorem valI_at : ∀ {l : List (Int × Int)} {i : Nat} {k v : Int}, (l.map (·.1)).Nodup → l[i]? = some (k, v) → valI l k = some v
  | [], _, _, _, _, e => by cases e
  | q :: l, 0, k, v, _, e => by
    cases e
    unfold valI
    rw [List.find?_cons_of_pos (by simp)]; rfl
  | q :: l, i + 1, k, v, n, e => by
    have e' : l[i]? = some (k, v) := e
    rw [List.map_cons, List.nodup_cons] at n
    have ne : q.1 ≠ k := fun y => n.1 (by rw [y]; exact List.mem_map.mpr ⟨(k, v), List.mem_of_getElem? e', rfl⟩)
    have := valI_at n.2 e'
    unfold valI at this ⊢
    rw [List.find?_cons_of_neg (by simp [ne])]
    exact this
theorem nodup_of {l : List (Int × Int)} {f : Int → Int} (h : (l.map fun q => f q.1).Nodup) : (l.map (·.1)).Nodup := by
  have e : l.map (fun q => f q.1) = (l.map (·.1)).map f := by rw [List.map_map]; rfl
  rw [e] at h
  exact List.Pairwise.of_map f (fun a b n y => n (by rw [y])) h
theorem plays_of {r : Row} {f : Str → Dk → List Str → Bool} (h : playsB r f = true) : ∃ wd S br, runB r.kd r.z r.c = some (wd, S, br) ∧ f wd S br = true := by
  unfold playsB at h
  split at h
  · rename_i wd S br e; exact ⟨wd, S, br, e, h⟩
  · cases h
end IdL
namespace L2
open PySem PySem.Spec PyProof.Rows
theorem pi_listK {X : Cx} {tg l : Expr} {tl : TE} (K : PySem.W.Frag) (hK : X.K = K) (hl : PE X l tl) : PI X tg l (iList K tl) := by
  subst hK
  exact pi_list hl
def rListO (K : PySem.W.Frag) : List V → Hp → VK → Prop := fun xs H Q => ∃ p ys, xs = [.ref p] ∧ (SqL K H p ys ∨ SqT K H p ys) ∧ ∀ l, H l = none → Q (.ref l) (upd H l (.lst ys))
theorem call_listK {X : Cx} (K : PySem.W.Frag) (hK : X.K = K) : CallR X (.type "list") (rListO K) := by
  subst hK
  exact call_list_of
end L2
namespace IdL
open PySem L2 TL
/-! ### the law -/
abbrev sLaw : Stmt := top 111
def NLaw : List Str := ["_law_script", "_law_pen", "_law_rules", "_law_all_rows", "_law_kind", "_law_text_here", "_law_case", "_law_ended", "_law_rows", "_law_many", "_law_more", "_law_own", "_law_code", "_law_told", "_law_by", "_law_other", "_law_part", "_law_at", "_law_moved", "_law_first", "_law_whole"]
theorem scLaw : FnScope NLaw ["_law_script"] (defScope sLaw) := ⟨rfl, rfl, rfl, by decide +kernel, rfl, by decide +kernel, by decide +kernel⟩
/-- the scope of the outer comprehension of the moved rows -/
def scopeP : Scope := { kind := .function, names := [(".0", .local), ("_law_part", .local), ("_law_by", .cell), ("_law_case", .cell)], isGenerator := false, isCoroutine := false }
theorem dps_cat {K : PySem.W.Frag} {H : Hp} : ∀ {vs us : List V} {ds es : List PyData}, DpAll K H vs ds → DpAll K H us es → DpAll K H (vs ++ us) (ds ++ es)
  | _, _, _, _, .nil, h => h
  | _, _, _, _, .cons h t, k => .cons h (dps_cat t k)
theorem dps_get {K : PySem.W.Frag} {H : Hp} : ∀ {vs : List V} {ds : List PyData}, DpAll K H vs ds → ∀ {i : Nat} {v : V}, vs[i]? = some v → ∃ d, ds[i]? = some d ∧ Dp K H v d
  | _, _, .cons h t, 0, v, e => by cases e; exact ⟨_, rfl, h⟩
  | _, _, .cons h t, i + 1, v, e => dps_get t (i := i) e
/-- what lists and tuples say stays -/
def KeepS (H G : Hp) : Prop := (∀ a xs, Rd H a (.lst xs) → Rd G a (.lst xs)) ∧ ∀ a xs, Rd H a (.tup xs) → Rd G a (.tup xs)
mutual
theorem dp_keep {K : PySem.W.Frag} {H G : Hp} (s : KeepS H G) : ∀ (d : PyData) (v : V), Dp K H v d → Dp K G v d
  | .none, _, h => by cases h; exact .non
  | .bool b, _, h => by cases h; exact .bl b
  | .int i, _, h => by cases h; exact .int i
  | .str x, _, h => by cases h; exact .str x
  | .list ds, _, h => by
    cases h with
    | lst hs ha => exact .lst (hs.imp (s.1 _ _) id) (dps_keep s ds _ ha)
  | .tuple ds, _, h => by
    cases h with
    | tup hs ha => exact .tup (hs.imp (s.2 _ _) id) (dps_keep s ds _ ha)
  | .dict _, _, h => by cases h
theorem dps_keep {K : PySem.W.Frag} {H G : Hp} (s : KeepS H G) : ∀ (ds : List PyData) (vs : List V), DpAll K H vs ds → DpAll K G vs ds
  | [], _, h => by cases h; exact .nil
  | d :: ds, _, h => by
    cases h with
    | cons h1 h2 => exact .cons (dp_keep s d _ h1) (dps_keep s ds _ h2)
end
theorem keep_but {b : Addr} {H G : Hp} {kv : List (Key × V)} (s : SameBut b H G) (e : H b = some (.dK kv)) : KeepS H G := by
  have go : ∀ a u, (∀ kv, u ≠ .dK kv) → Rd H a u → Rd G a u := fun a u n h => by
    rcases h with h | ⟨o, h⟩
    · exact .inl (s _ _ (fun y => by rw [y, e] at h; exact n _ (Option.some.inj h).symm) h)
    · exact .inr ⟨o, s _ _ (fun y => by rw [y, e] at h; cases h) h⟩
  exact ⟨fun a xs => go a _ (fun _ y => nomatch y), fun a xs => go a _ (fun _ y => nomatch y)⟩
theorem ints_dps {K : PySem.W.Frag} {H : Hp} : ∀ {l : List Int} {vs : List V}, DpAll K H vs (l.map .int) → vs = l.map .int
  | [], _, h => by cases h; rfl
  | n :: l, _, h => by
    cases h with
    | cons h1 h2 => cases h1; rw [ints_dps h2]; rfl
theorem case_dp {K : PySem.W.Frag} {H : Hp} {v : V} {c : Cs} (h : Dp K H v (caseD c)) : CsAt K H v c := by
  unfold caseD at h
  cases h with
  | tup hs ha =>
    cases ha with | cons a1 ha => cases ha with | cons a2 ha => cases ha with | cons a3 ha => cases ha with | cons a4 ha => cases ha with | cons a5 ha =>
    cases ha; cases a1; cases a2; cases a5
    cases a3 with
    | tup s3 d3 => cases a4 with
      | tup s4 d4 =>
        rw [ints_dps d3] at s3
        rw [ints_dps d4] at s4
        exact ⟨_, _, _, rfl, hs, s3, s4⟩
def partsD (r : Row) : PyData := .tuple [intsD r.wr, intsD r.bk, intsD r.ag]
theorem row_dp {K : PySem.W.Frag} {H : Hp} {v : V} {r : Row} (h : Dp K H v (lrD r)) : ∃ p cv rv, v = .ref p ∧ SqT K H p [.str r.kd, .str r.z, cv, .str r.wd, rv, .int r.many, .int r.more, .int r.own] ∧ CsAt K H cv r.c ∧ Dp K H rv (partsD r) := by
  unfold lrD at h
  cases h with
  | tup hs ha =>
    cases ha with | cons a1 ha => cases ha with | cons a2 ha => cases ha with | cons a3 ha => cases ha with | cons a4 ha => cases ha with | cons a5 ha => cases ha with | cons a6 ha => cases ha with | cons a7 ha => cases ha with | cons a8 ha =>
    cases ha; cases a1; cases a2; cases a4; cases a6; cases a7; cases a8
    exact ⟨_, _, _, rfl, hs, case_dp a3, a5⟩
structure FPen (K : PySem.W.Frag) (mg : Str → Option Value) (f : Addr) (d : FuncData) : Prop where
  u : Fun K "_law_begun_pen" "_law_begun_pen" sPen f d
  b : Binds K d ["_law_script"] []
  g : mg "_law_begun_pen" = some (.ref f)
structure FHand (K : PySem.W.Frag) (mg : Str → Option Value) (f : Addr) (d : FuncData) : Prop where
  u : Fun K "_law_hand_rows" "_law_hand_rows" sHand f d
  b : Binds K d [] []
  g : mg "_law_hand_rows" = some (.ref f)
structure FFar (K : PySem.W.Frag) (mg : Str → Option Value) (f : Addr) (d : FuncData) : Prop where
  u : Fun K "_law_far_rows" "_law_far_rows" sFar f d
  b : Binds K d [] []
  g : mg "_law_far_rows" = some (.ref f)
structure FPbk (K : PySem.W.Frag) (mg : Str → Option Value) (f : Addr) (d : FuncData) : Prop where
  u : Fun K "play_book" "play_book" sPbk f d
  b : Binds K d ["code", "case"] []
  g : mg "play_book" = some (.ref f)
theorem made_same {H G : Hp} {x dx C : Addr} (nx : H x = none) (ndx : H dx = none) (kp : ∀ a o, a ≠ x → upd (upd H dx (.own x)) x (.ins C dx []) a = some o → G a = some o) : Same H G := fun a o e =>
  kp a o (fun y => by rw [y, nx] at e; cases e) (by rw [upd_ne (fun y => by rw [y, nx] at e; cases e), upd_ne (fun y => by rw [y, ndx] at e; cases e)]; exact e)
def sg (a b rx ar : Addr) (v4 v5 v6 v7 v8 v9 v10 v11 v12 v13 v14 v15 v18 : Option V) : St := [some (.ref a), some (.ref b), some (.ref rx), some (.ref ar), v4, v5, v6, v7, v8, v9, v10, v11, v12, v13, v14, v15, none, none, v18, none, none]
section
variable {a b rx ar : Addr} {v4 v5 v6 v7 v8 v9 v10 v11 v12 v13 v14 v15 v18 : Option V} (x : Option V)
theorem sg_4 : List.set (sg a b rx ar v4 v5 v6 v7 v8 v9 v10 v11 v12 v13 v14 v15 v18) 4 x = sg a b rx ar x v5 v6 v7 v8 v9 v10 v11 v12 v13 v14 v15 v18 := rfl
theorem sg_5 : List.set (sg a b rx ar v4 v5 v6 v7 v8 v9 v10 v11 v12 v13 v14 v15 v18) 5 x = sg a b rx ar v4 x v6 v7 v8 v9 v10 v11 v12 v13 v14 v15 v18 := rfl
theorem sg_6 : List.set (sg a b rx ar v4 v5 v6 v7 v8 v9 v10 v11 v12 v13 v14 v15 v18) 6 x = sg a b rx ar v4 v5 x v7 v8 v9 v10 v11 v12 v13 v14 v15 v18 := rfl
theorem sg_7 : List.set (sg a b rx ar v4 v5 v6 v7 v8 v9 v10 v11 v12 v13 v14 v15 v18) 7 x = sg a b rx ar v4 v5 v6 x v8 v9 v10 v11 v12 v13 v14 v15 v18 := rfl
theorem sg_8 : List.set (sg a b rx ar v4 v5 v6 v7 v8 v9 v10 v11 v12 v13 v14 v15 v18) 8 x = sg a b rx ar v4 v5 v6 v7 x v9 v10 v11 v12 v13 v14 v15 v18 := rfl
theorem sg_9 : List.set (sg a b rx ar v4 v5 v6 v7 v8 v9 v10 v11 v12 v13 v14 v15 v18) 9 x = sg a b rx ar v4 v5 v6 v7 v8 x v10 v11 v12 v13 v14 v15 v18 := rfl
theorem sg_10 : List.set (sg a b rx ar v4 v5 v6 v7 v8 v9 v10 v11 v12 v13 v14 v15 v18) 10 x = sg a b rx ar v4 v5 v6 v7 v8 v9 x v11 v12 v13 v14 v15 v18 := rfl
theorem sg_11 : List.set (sg a b rx ar v4 v5 v6 v7 v8 v9 v10 v11 v12 v13 v14 v15 v18) 11 x = sg a b rx ar v4 v5 v6 v7 v8 v9 v10 x v12 v13 v14 v15 v18 := rfl
theorem sg_12 : List.set (sg a b rx ar v4 v5 v6 v7 v8 v9 v10 v11 v12 v13 v14 v15 v18) 12 x = sg a b rx ar v4 v5 v6 v7 v8 v9 v10 v11 x v13 v14 v15 v18 := rfl
theorem sg_13 : List.set (sg a b rx ar v4 v5 v6 v7 v8 v9 v10 v11 v12 v13 v14 v15 v18) 13 x = sg a b rx ar v4 v5 v6 v7 v8 v9 v10 v11 v12 x v14 v15 v18 := rfl
theorem sg_14 : List.set (sg a b rx ar v4 v5 v6 v7 v8 v9 v10 v11 v12 v13 v14 v15 v18) 14 x = sg a b rx ar v4 v5 v6 v7 v8 v9 v10 v11 v12 v13 x v15 v18 := rfl
theorem sg_15 : List.set (sg a b rx ar v4 v5 v6 v7 v8 v9 v10 v11 v12 v13 v14 v15 v18) 15 x = sg a b rx ar v4 v5 v6 v7 v8 v9 v10 v11 v12 v13 v14 x v18 := rfl
theorem sg_18 : List.set (sg a b rx ar v4 v5 v6 v7 v8 v9 v10 v11 v12 v13 v14 v15 v18) 18 x = sg a b rx ar v4 v5 v6 v7 v8 v9 v10 v11 v12 v13 v14 v15 x := rfl
end
theorem g_set {i : Nat} {v : V} {σ σ2 : St} {H : Hp} {Q : St → Hp → Prop} (e : σ.set i (some v) = σ2) (k : Q σ2 H) : gName i v σ H Q := by
  subst e
  exact k
def spLaw (K : PySem.W.Frag) : Sp := fun vs H Q _ => ∃ (a : Addr) (ns : List Int), vs = [.ref a] ∧ SqL K H a (ns.map V.int) ∧ ns.length ≤ 63 ∧ ∀ H', Q (.bl true) H'
section
variable {P : Program} {w : World} {K : PySem.W.Frag} {mg : Str → Option Value} {base : Heap}
theorem ok_law {f fPN fHN fFR fDR fTN fPB fTX fRG fR fI CC CR CP CM : Addr} {fd dPN dHN dFR dDR dTN dPB dTX dRG dR dI : FuncData} (F : Fun K "law" "law" sLaw f fd) (PN : FPen K mg fPN dPN) (OPN : FnOk P w K mg base CX0 1 fPN dPN ["_law_script"] (spPen K)) (HN : FHand K mg fHN dHN) (OHN : FnOk P w K mg base CX0 6 fHN dHN [] (spRows K rowsH))
    (FR : FFar K mg fFR dFR) (OFR : FnOk P w K mg base CX0 1 fFR dFR [] (spRows K rowsF)) (DR : FDr K mg fDR dDR) (ODR : FnOk P w K mg base CX0 1 fDR dDR ["_law_pen", "_law_span"] spDraw) (TN : FTurn K mg fTN dTN) (OTN : FnOk P w K mg base CX0 1 fTN dTN ["_law_case", "_law_by"] (spTurn K))
    (PB : FPbk K mg fPB dPB) (OPB : FnOk P w K mg base (CX P w) 7 fPB dPB ["code", "case"] (spPbk K CC CR CP)) (TX : FTxt K mg fTX dTX) (OTx : FnOk P w K mg base CX0 5 fTX dTX ["_law_rows"] spTxt) (RG : FRight K mg fRG dRG) (ORg : FnOk P w K mg base CX0 3 fRG dRG ["_law_kind"] spRight)
    (MR : Mk K CR fR) (ORr : FnOk P w K mg base (CX P w) 5 fR dR ["self", "keep"] (spI CR CM)) (gR : mg "BookRules" = some (.ref CR)) (bR : Binds K dR ["self", "keep"] []) (OPl' : OPl K CP)
    (MC : Mk K CC fI) (OIn : FnOk P w K mg base (CX P w) 8 fI dI ["self", "kind", "rules", "text"] (spInitF K CC)) (gC : mg "BookCode" = some (.ref CC)) (bI : Binds K dI ["self", "kind", "rules", "text"] []) (T : Gv mg) : FnOk P w K mg base CX0 10 f fd ["_law_script"] (spLaw K) := by
  refine F.ok scLaw (fun vs H Q E h => ?_) (fun cdv A outer s H vs Q E hr h => ?_)
  · obtain ⟨a, ns, rfl, _⟩ := h
    rfl
  · obtain ⟨a, ns, rfl, hS, hlen, k⟩ := h
    have hu := hu_of hr
    have hr1 := hr.mono (show 1 ≤ 9 by decide)
    have hr3 := hr.mono (show 3 ≤ 9 by decide)
    have hr5 := hr.mono (show 5 ≤ 9 by decide)
    have hr6 := hr.mono (show 6 ≤ 9 by decide)
    have hr7 := hr.mono (show 7 ≤ 9 by decide)
    have hr9 := hr.mono (show 9 ≤ 9 by decide)
    refine ⟨_, (pss_cons (ps_set (i := 1) scLaw.nd rfl (.inl rfl) (pe_call OPN hr1 rfl PN.g PN.u.kp PN.b .nil pass0 (pa_cons (pv 0) pa_nil)))
 (pss_cons (ps_set (i := 2) scLaw.nd rfl (.inl rfl) (pe_make MR ORr hr6 rfl gR bR .nil (passes_call (E := E0) takes0 fun _ _ _ _ z => z) (pa_cons pe_str pa_nil)))
 (pss_cons (ps_set (i := 3) scLaw.nd rfl (.inl rfl) (pe_op op_cat (pe_call0 OHN hr6 rfl HN.g HN.u.kp HN.b .nil pass0) (pe_call0 OFR hr1 rfl FR.g FR.u.kp FR.b .nil pass0)))
 (pss_cons (ps_for PassesOwn.never rfl (pi_list (pv 3)) (pg_tup rfl (pgs_cons (pg_name (i := 4) scLaw.nd rfl (.inl rfl)) (pgs_cons (pg_name (i := 5) scLaw.nd rfl (.inl rfl)) (pgs_cons (pg_name (i := 6) scLaw.nd rfl (.inr rfl)) (pgs_cons (pg_name (i := 7) scLaw.nd rfl (.inl rfl)) (pgs_cons (pg_name (i := 8) scLaw.nd rfl (.inl rfl)) (pgs_cons (pg_name (i := 9) scLaw.nd rfl (.inl rfl)) (pgs_cons (pg_name (i := 10) scLaw.nd rfl (.inl rfl)) (pgs_cons (pg_name (i := 11) scLaw.nd rfl (.inl rfl)) pgs_nil))))))))) (pss_cons (ps_set (i := 12) scLaw.nd rfl (.inl rfl) (pe_make MC OIn hr9 rfl gC bI .nil (passes_call (E := E0) takes0 fun _ _ _ _ z => z) (pa_cons (pv 4) (pa_cons (pv 2) (pa_cons (pv 5) pa_nil)))))
 (pss_cons (ps_set (i := 13) scLaw.nd rfl (.inr rfl) (pe_call OPB hr7 rfl PB.g PB.u.kp PB.b .nil (passes_call (E := E0) takes0 fun _ _ _ _ z => z) (pa_cons (pv 12) (pa_cons (pv 6) pa_nil))))
 (pss_cons (ps_if (PW.pt (pw_or (pt_cmpR op_ne (pe_fld (pv 13) rfl) (pv 7) (nomark _)) (pw_or1 (pt_cmpR (op_neD hr.units) (pe_tup (pa_cons (pe_callTy call_list_of (by rfl) T.list (by decide +kernel) (pa_cons (pe_fld (pv 13) rfl) pa_nil)) (pa_cons (pe_callTy call_list_of (by rfl) T.list (by decide +kernel) (pa_cons (pe_fld (pv 13) rfl) pa_nil)) (pa_cons (pe_callTy call_list_of (by rfl) T.list (by decide +kernel) (pa_cons (pe_fld (pv 13) rfl) pa_nil)) pa_nil)))) (pv 8) (nomark _))))) (pss_one (ps_ret pe_bl)) pss_nil)
 (pss_cons (ps_if (PW.pt (pw_or (pt_cmpR (op_neD hr.units) (pe_slice sl_tup (pe_fld (pv 13) rfl) (po_some pe_int) (po_some pe_int)) (pe_tup (pa_cons (pv 9) (pa_cons (pv 10) (pa_cons (pv 11) pa_nil)))) (nomark _)) (pw_or1 (pt_cmpR op_ne (pe_cmpR op_eq (pv 7) pe_str (nomark _)) (pe_cmpR (op_eqD hr.units) (pe_fld (pv 13) rfl) (pe_tup (pa_cons pe_str pa_nil)) (nomark _)) (nomark _))))) (pss_one (ps_ret pe_bl)) pss_nil)
 (pss_one (ps_if (PW.pt (pw_and (pt_cmpR op_notin_str pe_str (pv 5) (by rfl)) (pw_and1 (pt_cmpR op_ne (pv 5) pe_str (nomark _))))) (pss_cons (ps_set (i := 14) scLaw.nd rfl (.inr rfl) (pe_call ODR hr1 rfl DR.g DR.u.kp DR.b .nil pass0 (pa_cons (pv 1) (pa_cons (pe_ix ix_tup (pv 6) pe_int (fun _ _ => rfl)) pa_nil))))
 (pss_cons (ps_set (i := 15) scLaw.nd rfl (.inl rfl) (pe_call OPB hr7 rfl PB.g PB.u.kp PB.b .nil (passes_call (E := E0) takes0 fun _ _ _ _ z => z) (pa_cons (pv 12) (pa_cons (pe_call OTN hr1 rfl TN.g TN.u.kp TN.b .nil pass0 (pa_cons (pv 6) (pa_cons (pv 14) pa_nil))) pa_nil))))
 (pss_cons (ps_setLc (i := 18) (own := [("_law_part", 16)]) (g := (gName 16)) (by rfl) scLaw.nd rfl rfl (sw_true rfl rfl rfl (by decide +kernel)) (pi_tup (pv 8)) (blkOk_by (N := NLaw) (sc := defScope sLaw) (by decide +kernel)) (fun _ _ _ _ _ => (pg_name (i := 16) scLaw.nd rfl (.inl rfl))) (fun _ _ _ _ _ => pts_nil) (fun _ _ _ _ _ => (pe_lc (own := [("_law_at", 17)]) (g := (gName 17)) (by rfl) scLaw.nd (pi_listK K rfl (pv 16)) (blkOk_by (N := NLaw) (sc := scopeP) (by decide +kernel)) (fun _ _ _ _ _ => (pg_name (i := 17) scLaw.nd rfl (.inl rfl))) (fun _ _ _ _ _ => pts_nil) (fun _ _ _ _ _ => (pe_op op_modN (pe_callTy call_int1 (by rfl) T.int (by decide +kernel) (pa_cons (pe_op op_add (pv 17) (pv 14)) pa_nil)) (pe_ix (r := rIxT K) ix_tup (pv 6) pe_int (fun _ _ => rfl)))))))
 (pss_cons (ps_if (pt_cmpR (op_neD hr.units) (pe_lc (own := [("_law_part", 16)]) (g := (gName 16)) (by rfl) scLaw.nd (pi_tup (pe_tup (pa_cons (pe_fld (pv 15) rfl) (pa_cons (pe_fld (pv 15) rfl) (pa_cons (pe_fld (pv 15) rfl) pa_nil))))) (blkOk_by (N := NLaw) (sc := defScope sLaw) (by decide +kernel)) (fun _ _ _ _ _ => (pg_name (i := 16) scLaw.nd rfl (.inl rfl))) (fun _ _ _ _ _ => pts_nil) (fun _ _ _ _ _ => (pe_callTy (call_listK K rfl) (by rfl) T.list (by decide +kernel) (pa_cons (pv 16) pa_nil)))) (pv 18) (nomark _)) (pss_one (ps_ret pe_bl)) pss_nil)
 (pss_cons (ps_if (PW.pt (pw_or (pt_cmpR (op_neD hr.units) (pe_fld (pv 15) rfl) (pe_fld (pv 13) rfl) (nomark _)) (pw_or (pt_cmpR op_ne (pe_fld (pv 15) rfl) (pv 7) (nomark _)) (pw_or1 (pt_cmpR (op_neD hr.units) (pe_slice sl_tup (pe_fld (pv 15) rfl) (po_some pe_int) (po_some pe_int)) (pe_tup (pa_cons (pv 9) (pa_cons (pv 10) (pa_cons (pv 11) pa_nil)))) (nomark _)))))) (pss_one (ps_ret pe_bl)) pss_nil)
 (pss_one (ps_if (pt_cmpR (op_ne_dictA hr.units0) (pe_fld (pv 15) rfl) (pe_callTy (call_dictP rfl) (by rfl) T.dict (by decide +kernel) (pa_cons (pe_lock (pe_lc (own := [("_law_at", 17)]) (g := (gName 17)) (by rfl) scLaw.nd (pi_keys (pe_fld (pv 13) rfl)) (blkOk_by (N := NLaw) (sc := defScope sLaw) (by decide +kernel)) (fun _ _ _ _ _ => (pg_name (i := 17) scLaw.nd rfl (.inl rfl))) (fun _ _ _ _ _ => pts_nil) (fun _ _ _ _ _ => (pe_tup (pa_cons (pe_op op_modN (pe_callTy call_int1 (by rfl) T.int (by decide +kernel) (pa_cons (pe_op op_add (pv 17) (pv 14)) pa_nil)) (pe_ix (r := rIxT K) ix_tup (pv 6) pe_int (fun _ _ => rfl))) (pa_cons (pe_dget hu (pe_fldK K rfl (pv 13) rfl) (pv 17) (fun _ _ => rfl)) pa_nil)))))) pa_nil)) (nomark _)) (pss_one (ps_ret pe_bl)) pss_nil))))))) pss_nil)))))))
 (pss_cons (ps_set (i := 19) scLaw.nd rfl (.inl rfl) (pe_call OPB hr7 rfl PB.g PB.u.kp PB.b .nil (passes_call (E := E0) takes0 fun _ _ _ _ z => z) (pa_cons (pe_make MC OIn hr9 rfl gC bI .nil (passes_call (E := E0) takes0 fun _ _ _ _ z => z) (pa_cons pe_str (pa_cons (pv 2) (pa_cons (pe_call OTx hr5 rfl TX.g TX.u.kp TX.b .nil pass0 (pa_cons (pe_call ORg hr3 rfl RG.g RG.u.kp RG.b .nil pass0 (pa_cons pe_str pa_nil)) pa_nil)) pa_nil)))) (pa_cons (pe_tup (pa_cons pe_int (pa_cons pe_int (pa_cons (pe_tup (pa_cons pe_int (pa_cons pe_int pa_nil))) (pa_cons (pe_tup pa_nil) (pa_cons pe_int pa_nil)))))) pa_nil))))
 (pss_cons (ps_if (PW.pt (pw_or (pt_cmpR (op_neD hr.units) (pe_fld (pv 19) rfl) (pe_tup (pa_cons pe_int (pa_cons pe_int (pa_cons pe_int (pa_cons pe_int (pa_cons pe_int pa_nil)))))) (nomark _)) (pw_or (pt_cmpR (op_ne_dictA hr.units0) (pe_fld (pv 19) rfl) (pe_disp (pps_cons pe_int pe_int (pps_cons pe_int pe_int pps_nil)) (by rfl) (by rfl) (fun z => by cases z) (by decide)) (nomark _)) (pw_or1 (pt_cmpR (op_neD hr.units) (pe_fld (pv 19) rfl) (pe_tup pa_nil) (nomark _)))))) (pss_one (ps_ret pe_bl)) pss_nil)
 (pss_cons (ps_set (i := 20) scLaw.nd rfl (.inl rfl) (pe_call OPB hr7 rfl PB.g PB.u.kp PB.b .nil (passes_call (E := E0) takes0 fun _ _ _ _ z => z) (pa_cons (pe_make MC OIn hr9 rfl gC bI .nil (passes_call (E := E0) takes0 fun _ _ _ _ z => z) (pa_cons pe_str (pa_cons (pv 2) (pa_cons pe_str pa_nil)))) (pa_cons (pe_tup (pa_cons pe_int (pa_cons pe_int (pa_cons (pe_tup pa_nil) (pa_cons (pe_tup pa_nil) (pa_cons pe_int pa_nil)))))) pa_nil))))
 (pss_one (ps_ret (pe_and (pe_cmpR (op_eqD hr.units) (pe_fld (pv 20) rfl) (pe_tup (pa_cons pe_str pa_nil)) (nomark _)) (pe_one (pe_cmpR (op_eqD hr.units) (pe_fld (pv 20) rfl) (pe_tup (pa_cons pe_int (pa_cons pe_int (pa_cons pe_int (pa_cons pe_int (pa_cons pe_int pa_nil)))))) (nomark _))))))))))))), ?_⟩
    refine ⟨_, rfl, a, ns, rfl, hS, hlen, fun b l H1 nb0 nl0 s1 B1 => ?_⟩
    intro rx dx nx ndx nex
    refine ⟨rx, dx, .str "size", rfl, ⟨(show ∀ c ∈ tl ("size" : Str), c < 128 by decide +kernel), by decide +kernel⟩, upd_same, .inr ⟨"size", [(1, none)], rfl, by kernel_rfl, ?_, by decide, fun H2 kp2 RA => ⟨rfl, ?_⟩⟩⟩
    · intro t ht
      rw [List.mem_singleton.mp ht]
      exact ⟨.inl rfl, fun n e => by cases e⟩
    have s2 : Same H1 H2 := made_same nx ndx kp2
    have RA : RulAt H2 rx CR "size" 1 0 := ⟨dx, RA⟩
    clear kp2
    have B2 := B1.same s2
    refine ⟨rfl, fun ph H3 s3 nph RH => ?_⟩
    refine ⟨rfl, fun pf H4 s4 npf RF => ?_⟩
    obtain ⟨vh, eh, lh, dh⟩ := RH
    obtain ⟨vf, ef, lf, df⟩ := RF
    have eh4 := s4 _ _ eh
    have dh4 : DpAll K H4 vh (rowsH.map lrD) := dps_same (fun a o e => s4 _ _ (offO_same _ _ e)) _ _ dh
    have df4 : DpAll K H4 vf (rowsF.map lrD) := dps_same offO_same _ _ df
    refine ⟨ph, pf, _, _, rfl, rfl, eh4, ef, (by rw [lh, lf]; decide +kernel), fun ar nar => ?_⟩
    have s5 : Same H4 _ := same_new (o := .lst (vh ++ vf)) nar
    have e5 : upd H4 ar (.lst (vh ++ vf)) ar = some (.lst (vh ++ vf)) := upd_same
    have d5 : DpAll K (upd H4 ar (.lst (vh ++ vf))) (vh ++ vf) (rowsL.map lrD) := by
      rw [← rows_HF, List.map_append]
      exact dps_cat (dps_same s5 _ _ dh4) (dps_same s5 _ _ df4)
    have l5 : (vh ++ vf).length = 36 := by rw [List.length_append, lh, lf]; rfl
    show tSeq _ _ _ _ (upd H4 ar (.lst (vh ++ vf)))
    generalize upd H4 ar (.lst (vh ++ vf)) = H5 at *
    generalize vh ++ vf = vr at *
    have B5 : PenL H5 b l 0 := B2.same (fun a o e => s5 _ _ (s4 _ _ (s3 _ _ e)))
    have RA5 : RulAt H5 rx CR "size" 1 0 := RA.imp fun dx e => s5 _ _ (s4 _ _ (s3 _ _ e))
    refine ⟨_, rfl, ar, rfl, ⟨_, SqL.of e5⟩, for_list (K := K) (a := ar) (xs := vr) (fun i σ G => ∃ (v4 v5 v6 v7 v8 v9 v10 v11 v12 v13 v14 v15 v18 : Option V), σ = sg a b rx ar v4 v5 v6 v7 v8 v9 v10 v11 v12 v13 v14 v15 v18 ∧ SameBut b H5 G ∧ PenL G b l i) ⟨none, none, none, none, none, none, none, none, none, none, none, none, none, rfl, fun a o _ e => e, B5⟩ ?_ ?_ ?_⟩
    · rintro i σ G _ ⟨_, _, _, _, _, _, _, _, _, _, _, _, _, _, sG, _⟩
      exact SqL.of (sG _ _ (fun y => by obtain ⟨_, _, _, q, _⟩ := B5.ex; rw [y, q] at e5; cases e5) e5)
    · rintro i x σ G hi ⟨v4, v5, v6, v7, v8, v9, v10, v11, v12, v13, v14, v15, v18, rfl, sG, BG⟩
      obtain ⟨_, _, _, hb5, _⟩ := B5.ex
      obtain ⟨d, hd, dx5⟩ := dps_get d5 hi
      rw [List.getElem?_map] at hd
      obtain ⟨r, hr0, rfl⟩ := Option.map_eq_some_iff.mp hd
      obtain ⟨wd, S, br, RO⟩ := row_of (List.mem_of_getElem? hr0)
      have li : i < 36 := by rw [← l5]; exact (List.getElem?_eq_some_iff.mp hi).1
      obtain ⟨p, cv, rv, rfl, hp, hcv, hrv⟩ := row_dp (dp_keep (keep_but sG hb5) _ _ dx5)
      have RAG : RulAt G rx CR "size" 1 0 := RA5.imp fun dx e => sG _ _ (fun y => by rw [y, hb5] at e; cases e) e
      clear hd dx5
      refine ⟨p, _, rfl, hp, rfl, _, _, rfl, _, _, rfl, _, _, rfl, _, _, rfl, _, _, rfl, _, _, rfl, _, _, rfl, _, _, rfl, rfl, ?_⟩
      rw [sg_4, sg_5, sg_6, sg_7, sg_8, sg_9, sg_10, sg_11]
      obtain ⟨rs, ds, jm, fs, e1, e2, e3, e4, PP⟩ := RO.pl.ex
      refine ⟨_, rfl, _, rfl, _, rfl, ?_⟩
      intro cx dcx ncx ndcx nexc
      refine ⟨cx, dcx, r.kd, .ref rx, r.z, rs, ds, jm, rfl, RO.pl.kin, upd_same, RO.pl.ln, RO.pl.ro, e1, e2, fun G1 kp1 CF => ⟨rfl, ?_⟩⟩
      have t1 : Same G G1 := made_same ncx ndcx kp1
      clear kp1
      refine g_set (sg_12 _) ?_
      have CDP := CF.play e1 e3 e4
      have CV1 := hcv.keep (KeepT.of t1)
      refine ⟨_, rfl, _, rfl, cx, rx, r.kd, "size", fs, jm, 1, 0, cv, r.c, wd, S, br, rfl, CDP, RAG.imp (fun dx e => t1 _ _ e), CV1, RO.pl.co, RO.pl.cs, PP, fun px G2 u2 PL => ?_⟩
      obtain ⟨dp, pa, pb, pc, pd, pe, pf', q0, qa, qb, qc, qd, qe, qf⟩ := PL.ex
      have RV2 : Dp K G2 rv (partsD r) := dp_same (fun a o e => u2 _ _ (t1 _ _ e)) _ _ hrv
      refine g_set (sg_13 _) ?_
      have brk := br_ok PP
      have hrl := List.mem_of_getElem? hr0
      obtain ⟨w0, k0, g0⟩ := sm_zero hrl RO.sm
      have OP := OPl'
      refine ⟨_, rfl, px, CP, dp, _, _, rfl, q0, OP.cl, OP.no "ended" (by decide +kernel), rfl, _, rfl, rfl, _, rfl, iteNS (show V.str wd = V.str r.wd by rw [RO.sm.wd]) ?_⟩
      refine ⟨_, rfl, px, CP, dp, _, _, rfl, q0, OP.cl, OP.no "written" (by decide +kernel), rfl, pb, _, rfl, .inr (SqT.of qb), fun lb nlb => ?_⟩
      have z1 := same_new (o := .lst (S.wr.map V.int)) nlb
      have gb : upd G2 lb (.lst (S.wr.map V.int)) lb = some (.lst (S.wr.map V.int)) := upd_same
      generalize upd G2 lb (.lst (S.wr.map V.int)) = G3 at *
      refine ⟨_, rfl, px, CP, dp, _, _, rfl, z1 _ _ q0, OP.cl, OP.no "back" (by decide +kernel), rfl, pc, _, rfl, .inr (SqT.of (z1 _ _ qc)), fun lc nlc => ?_⟩
      have z2 := same_new (o := .lst (S.bk.map V.int)) nlc
      have gc : upd G3 lc (.lst (S.bk.map V.int)) lc = some (.lst (S.bk.map V.int)) := upd_same
      generalize upd G3 lc (.lst (S.bk.map V.int)) = G4 at *
      refine ⟨_, rfl, px, CP, dp, _, _, rfl, z2 _ _ (z1 _ _ q0), OP.cl, OP.no "again" (by decide +kernel), rfl, pd, _, rfl, .inr (SqT.of (z2 _ _ (z1 _ _ qd))), fun ld nld => ?_⟩
      have z3 := same_new (o := .lst (S.ag.map V.int)) nld
      have gd : upd G4 ld (.lst (S.ag.map V.int)) ld = some (.lst (S.ag.map V.int)) := upd_same
      generalize upd G4 ld (.lst (S.ag.map V.int)) = G5 at *
      refine ⟨by show 3 ≤ sizeLine; decide, fun tt ntt => ?_⟩
      have z4 := same_new (o := .tup [.ref lb, .ref lc, .ref ld]) ntt
      have gt : upd G5 tt (.tup [.ref lb, .ref lc, .ref ld]) tt = some (.tup [.ref lb, .ref lc, .ref ld]) := upd_same
      generalize upd G5 tt (.tup [.ref lb, .ref lc, .ref ld]) = G6 at *
      have z24 : Same G2 G6 := fun a o e => z4 _ _ (z3 _ _ (z2 _ _ (z1 _ _ e)))
      have P6 : partsD r = partsI S.wr S.bk S.ag := by unfold partsD partsI; rw [w0, k0, g0]
      refine ⟨_, rfl, ne_same (d := partsI S.wr S.bk S.ag) (.tup (SqT.of gt) (.cons (ints_D (z4 _ _ (z3 _ _ (z2 _ _ gb)))) (.cons (ints_D (z4 _ _ (z3 _ _ gc))) (.cons (ints_D (z4 _ _ gd)) .nil)))) (P6 ▸ dp_same z24 _ _ RV2) (parts_shaped _ _ _) ⟨_, rfl, iteF ?_⟩⟩
      have q06 := z24 _ _ q0
      have qa6 := z24 _ _ qa
      have qf6 := z24 _ _ qf
      refine ⟨_, rfl, px, CP, dp, _, _, rfl, q06, OP.cl, OP.no "fields" (by decide +kernel), rfl, _, rfl, _, rfl, pa, _, rfl, SqT.of qa6, (by show ¬ ((1 : Nat) = 0 ∧ _); exact fun y => absurd y.1 (by decide)), fun fq nfq => ?_⟩
      have ecut : cutV ((toldF S).map V.int) (some 1) (some 4) = ([S.nm .many, S.nm .more, S.nm .own] : List Int).map V.int := rfl
      rw [ecut]
      have z5 := same_new (o := .tup (([S.nm .many, S.nm .more, S.nm .own] : List Int).map V.int)) nfq
      have gf : upd G6 fq (.tup (([S.nm .many, S.nm .more, S.nm .own] : List Int).map V.int)) fq = some (.tup (([S.nm .many, S.nm .more, S.nm .own] : List Int).map V.int)) := upd_same
      generalize upd G6 fq (.tup (([S.nm .many, S.nm .more, S.nm .own] : List Int).map V.int)) = G7 at *
      refine ⟨_, rfl, _, rfl, _, rfl, by show 3 ≤ sizeLine; decide, fun t2 nt2 => ?_⟩
      have z6 := same_new (o := .tup [.int r.many, .int r.more, .int r.own]) nt2
      have g2 : upd G7 t2 (.tup [.int r.many, .int r.more, .int r.own]) t2 = some (.tup (([r.many, r.more, r.own] : List Int).map V.int)) := upd_same
      generalize upd G7 t2 (.tup [.int r.many, .int r.more, .int r.own]) = G8 at *
      have e3n : ([S.nm .many, S.nm .more, S.nm .own] : List Int) = [r.many, r.more, r.own] := by rw [RO.sm.many, RO.sm.more, RO.sm.own]
      refine ne_same (d := tI [r.many, r.more, r.own]) (e3n ▸ tI_dp (SqT.of (z6 _ _ gf))) (tI_dp (SqT.of g2)) (tI_shaped _) ⟨_, rfl, iteF ?_⟩
      have z68 : Same G6 G8 := fun a o e => z6 _ _ (z5 _ _ e)
      refine ⟨_, rfl, rfl, _, rfl, px, CP, dp, _, _, rfl, z68 _ _ q06, OP.cl, OP.no "broken" (by decide +kernel), rfl, by show 1 ≤ sizeLine; decide, fun t3 nt3 => ?_⟩
      have z7 := same_new (o := .tup [.str "inside"]) nt3
      have g3 : upd G8 t3 (.tup [.str "inside"]) t3 = some (.tup ((["inside"] : List Str).map V.str)) := upd_same
      refine eq_tS (SqT.of (z7 _ _ (z68 _ _ qf6))) (SqT.of g3) brk (by decide +kernel) ?_
      generalize upd G8 t3 (.tup [.str "inside"]) = G9 at *
      have eby : V.bl (decide (V.str r.wd = V.str (Str.ofString "beyond"))) = V.bl (decide (br = [Str.ofString "inside"])) := by
        have := RO.bey
        rw [RO.sm.wd] at this
        rw [dec_str]
        exact congrArg V.bl this
      refine ⟨rfl, _, rfl, iteNS eby ?_⟩
      have z69 : Same G6 G9 := fun a o e => z7 _ _ (z68 _ _ e)
      have z29 : Same G2 G9 := fun a o e => z69 _ _ (z24 _ _ e)
      have z09 : Same G G9 := fun a o e => z29 _ _ (u2 _ _ (t1 _ _ e))
      have sG9 : SameBut b H5 G9 := fun a o n e => z09 _ _ (sG a o n e)
      have BG9 : PenL G9 b l i := BG.same z09
      refine ⟨_, rfl, _, _, rfl, rfl, _, rfl, ?_⟩
      have etr := RO.tr
      by_cases hocc : (Builtin.Str.occurrences r.z "a = 0" 0 r.z.length 1).isEmpty = true
      · rw [hocc] at etr ⊢
        refine iteT ?_
        refine ⟨_, rfl, rfl, _, rfl, ?_⟩
        by_cases hz : r.z = "back until a"
        · refine iteNS (show V.str r.z = V.str "back until a" by rw [hz]) ?_
          exact ⟨_, _, _, _, _, _, _, _, _, _, _, _, _, rfl, sG9, BG9.more (by omega)⟩
        · refine iteNN (kne hz) ?_
          rw [decide_eq_false hz] at etr
          have htr : r.tr = true := etr.symm
          have CV9 := CV1.keep (KeepT.of (fun a o e => z29 _ _ (u2 _ _ e)))
          obtain ⟨cp, cd, cm, ecv, hc1, hc2, hc3⟩ := CV9.ex
          have szb := RO.pl.co.s1
          have szc := RO.pl.co.s2
          refine ⟨_, rfl, _, rfl, cp, _, 0, _, ecv, rfl, hc1, atI_nat (j := 0) rfl, b, l, i, r.c.sz, rfl, BG9, by omega, szb, by omega, fun by_ G10 by0 by1 sb B10 => ?_⟩
          refine g_set (sg_14 _) ?_
          obtain ⟨bn, rfl⟩ : ∃ bn : Nat, by_ = (bn : Int) := ⟨by_.toNat, by omega⟩
          obtain ⟨S', PO', SM', LE', LS', SV', ND'⟩ := RO.turn htr bn by1
          obtain ⟨rs', ds', jm', fs', e1', _, e3', e4', PP'⟩ := PO'.ex
          rw [e1] at e1'
          cases e1'
          rw [e3] at e3'
          cases e3'
          obtain ⟨_, t9, lf9, hb9, _⟩ := BG9.ex
          have kt := keep_but sb hb9
          have CD10 := (CDP.same (fun a o e => z29 _ _ (u2 _ _ e))).but sb hb9 kt.2 (inl_code e1)
          have RA10 : RulAt G10 rx CR "size" 1 0 := RAG.imp fun dx e => but_at sb hb9 (z09 _ _ e) (fun y => nomatch y)
          have PL10 : PlAt G10 px CP wd S br := (PL.same z29).but sb hb9
          have CV10 := CV9.keep kt.2
          have RV10 := dp_keep kt _ _ (dp_same z29 _ _ RV2)
          have sG10 : SameBut b H5 G10 := fun a o n e => sb a o n (sG9 a o n e)
          refine ⟨_, rfl, _, rfl, _, rfl, cv, r.c, (bn : Int), rfl, CV10, szb, fun cv' G11 t11 CV' => ?_⟩
          refine ⟨cx, rx, r.kd, "size", fs, jm, 1, 0, cv', turnC r.c bn, wd, S', br, rfl, CD10.same t11, RA10.imp (fun dx e => t11 _ _ e), CV', PO'.co, PO'.cs, PP', fun qx G12 t12 QL => ?_⟩
          refine g_set (sg_15 _) ?_
          have u12 : Same G10 G12 := fun a o e => t12 _ _ (t11 _ _ e)
          have RV12 := dp_same u12 _ _ RV10
          rw [P6] at RV12
          obtain ⟨rva, x1, x2, x3, erv, hrv2, y1, y2, y3⟩ := parts_dp RV12
          obtain ⟨cp', cd', cm', ecv', hc1', _, _⟩ := (CV10.keep (KeepT.of u12)).ex
          have key : ∀ (j : Nat) (x : V), ([x1, x2, x3].map V.ref)[j]? = some x → ∃ (q : Addr) (ns ms : List Int), x = .ref q ∧ SqL K G12 q (ns.map V.int) ∧ ([S'.wr, S'.bk, S'.ag] : List (List Int))[j]? = some ms ∧ ms = (ns.map fun a => (a + (bn : Int)) % r.c.sz) ∧ ns.length ≤ 100 := fun j x hj => by
            obtain ⟨le1, le2, le3⟩ := len_of hrl
            rcases j with _ | _ | _ | j
            · cases hj; exact ⟨x1, _, _, rfl, y1, rfl, by rw [SM'.wr, w0], by rw [w0]; exact le1⟩
            · cases hj; exact ⟨x2, _, _, rfl, y2, rfl, by rw [SM'.bk, k0], by rw [k0]; exact le2⟩
            · cases hj; exact ⟨x3, _, _, rfl, y3, rfl, by rw [SM'.ag, g0], by rw [g0]; exact le3⟩
            · cases hj
          refine ⟨_, rfl, rva, erv, ⟨_, hrv2⟩, fun D nD => lc_tup (K := K) (a := rva) (xs := [x1, x2, x3].map V.ref) (fun j G' => Same G12 G' ∧ LiAt G' D (([S'.wr, S'.bk, S'.ag] : List (List Int)).take j)) ⟨same_new nD, LiAt.new⟩ (fun j G' _ ⟨s, _⟩ => sqT_same s hrv2) ?_ ?_⟩
          · rintro j x G' hj ⟨sG', LA⟩
            obtain ⟨q, ns, ms, rfl, hq, hms, ems, lns⟩ := key j x hj
            have lms : j < 3 := (List.getElem?_eq_some_iff.mp hj).1
            refine ⟨rfl, _, rfl, q, rfl, ⟨_, sG'.seq hq⟩, fun E nE => lc_list (K := K) (a := q) (xs := ns.map V.int) (fun m G3 => Same G' G3 ∧ G3 E = some (.lst ((ms.take m).map V.int)) ∧ m ≤ 10000000) ⟨same_new nE, upd_same, by omega⟩ (fun m G3 _ ⟨s, _⟩ => Same.seq (fun a o e => s _ _ (sG' _ _ e)) hq) ?_ ?_⟩
            · rintro m y G3 hm ⟨s3, hE, _⟩
              rw [List.getElem?_map] at hm
              obtain ⟨n, hn, rfl⟩ := Option.map_eq_some_iff.mp hm
              have lm : m < ns.length := (List.getElem?_eq_some_iff.mp hn).1
              have hmm : ms[m]? = some ((n + (bn : Int)) % r.c.sz) := by rw [ems, List.getElem?_map, hn]; rfl
              refine ⟨rfl, _, rfl, _, rfl, _, _, rfl, rfl, .inl ⟨_, rfl, _, rfl, cp', _, 0, _, ecv', rfl, sqT_same (fun a o e => s3 _ _ (sG' _ _ e)) hc1', atI_nat (j := 0) rfl, _, _, rfl, rfl, (by show r.c.sz ≠ 0; omega), ?_⟩⟩
              refine ⟨_, hE, (by rw [List.length_map, List.length_take, sizeLine_eq]; omega), fun a o e => ?_, ?_, by omega⟩
              · rw [upd_ne (fun y => by rw [y, nE] at e; cases e)]; exact s3 _ _ e
              · rw [upd_same, take_snoc_ hmm, List.map_append]
                show _ = some (HO.lst (_ ++ [V.int ((n + (bn : Int)) % r.c.sz)]))
                rw [← Int.fmod_eq_emod_of_nonneg _ (show 0 ≤ r.c.sz by omega)]
            · rintro G3 ⟨s3, hE, _⟩
              have lms2 : ms.length = ns.length := by rw [ems, List.length_map]
              rw [List.length_map, ← lms2, List.take_length] at hE
              obtain ⟨acc, ha, hl, LA2⟩ := LA.app s3 nE hE (by rw [List.length_take]; omega)
              refine ⟨acc, ha, hl, fun a o e => ?_, ?_⟩
              · rw [upd_ne (fun y => by rw [y, nD] at e; cases e)]; exact s3 _ _ (sG' _ _ e)
              · rw [take_snoc_ hms]; exact LA2
          · rintro G13 ⟨t13, LA⟩
            refine g_set (sg_18 _) ?_
            have LA : LiAt G13 D [S'.wr, S'.bk, S'.ag] := LA
            obtain ⟨dq, oa, ob, oc, od, oe, of', o0, oqa, oqb, oqc, oqd, oqe, oqf⟩ := (QL.same t13).ex
            have gqx : ∀ G', Same G13 G' → G' qx = some (.ins CP dq (plF wd oa ob oc od oe of')) := fun G' s => s _ _ o0
            refine ⟨_, rfl, qx, CP, dq, _, _, rfl, o0, OP.cl, OP.no "written" (by decide +kernel), rfl, _, rfl, qx, CP, dq, _, _, rfl, o0, OP.cl, OP.no "back" (by decide +kernel), rfl, _, rfl, qx, CP, dq, _, _, rfl, o0, OP.cl, OP.no "again" (by decide +kernel), rfl, (by show 3 ≤ sizeLine; decide), fun t4 n4 => ?_⟩
            have z4 := same_new (o := .tup ([ob, oc, od].map V.ref)) n4
            have g4 : upd G13 t4 (.tup ([ob, oc, od].map V.ref)) t4 = some (.tup ([ob, oc, od].map V.ref)) := upd_same
            refine ⟨t4, rfl, ⟨_, SqT.of g4⟩, fun D2 nD2 => lc_tup (K := K) (a := t4) (xs := [ob, oc, od].map V.ref) (fun j G' => Same G13 G' ∧ SqT K G' t4 ([ob, oc, od].map V.ref) ∧ LiAt G' D2 (([S'.wr, S'.bk, S'.ag] : List (List Int)).take j)) ⟨fun a o e => (same_new nD2) _ _ (z4 _ _ e), SqT.of ((same_new nD2) _ _ g4), LiAt.new⟩ (fun j G' _ ⟨_, s, _⟩ => s) ?_ ?_⟩
            · rintro j x G' hj ⟨sG', hq4, LA2⟩
              have key2 : ∃ (q : Addr) (ms : List Int), x = .ref q ∧ G' q = some (.tup (ms.map V.int)) ∧ ([S'.wr, S'.bk, S'.ag] : List (List Int))[j]? = some ms := by
                rcases j with _ | _ | _ | j
                · cases hj; exact ⟨ob, _, rfl, sG' _ _ oqb, rfl⟩
                · cases hj; exact ⟨oc, _, rfl, sG' _ _ oqc, rfl⟩
                · cases hj; exact ⟨od, _, rfl, sG' _ _ oqd, rfl⟩
                · cases hj
              have lj3 : j < 3 := (List.getElem?_eq_some_iff.mp hj).1
              obtain ⟨q, ms, rfl, hq, hms⟩ := key2
              refine ⟨rfl, _, rfl, q, _, rfl, .inr (SqT.of hq), fun E nE => ?_⟩
              have zE := same_new (o := .lst (ms.map V.int)) nE
              obtain ⟨acc, ha, hl, LA3⟩ := LA2.app zE nE upd_same (by rw [List.length_take]; omega)
              have nD2' : upd G13 t4 (.tup ([ob, oc, od].map V.ref)) D2 = none := nD2
              have nD2o : ∀ {a o}, G13 a = some o → a ≠ D2 := fun h y => by rw [y] at h; rw [z4 _ _ h] at nD2'; cases nD2'
              refine ⟨acc, ha, hl, fun a o e => ?_, ?_, ?_⟩
              · rw [upd_ne (nD2o e)]; exact zE _ _ (sG' _ _ e)
              · obtain ⟨acc', e1, _⟩ := LA2.len
                exact (KeepT.lst (zE _ _ e1)).seq (sqT_same zE hq4)
              · rw [take_snoc_ hms]; exact LA3
            rintro G14 ⟨t14, _, LA2⟩
            have LA2 : LiAt G14 D2 [S'.wr, S'.bk, S'.ag] := LA2
            refine ⟨_, rfl, ne_same LA2.dp (LA.same t14).dp (list_shaped _ _ _) ⟨_, rfl, iteF ?_⟩⟩
            have PL14 := PL10.same (fun a o e => t14 _ _ (t13 _ _ (u12 _ _ e)))
            obtain ⟨dp2, ra, rb, rc, rd, re, rf, r0, rqa, rqb, rqc, rqd, rqe, rqf⟩ := PL14.ex
            have o14 := t14 _ _ o0
            refine ⟨_, rfl, qx, CP, dq, _, _, rfl, o14, OP.cl, OP.no "broken" (by decide +kernel), rfl, _, rfl, px, CP, dp2, _, _, rfl, r0, OP.cl, OP.no "broken" (by decide +kernel), rfl, ne_same (tS_dp (SqT.of (t14 _ _ oqf))) (tS_dp (SqT.of rqf)) (tS_shaped brk) ⟨_, rfl, iteF ?_⟩⟩
            refine ⟨_, rfl, qx, CP, dq, _, _, rfl, o14, OP.cl, OP.no "ended" (by decide +kernel), rfl, _, rfl, rfl, _, rfl, iteNS (show V.str wd = V.str r.wd by rw [RO.sm.wd]) ?_⟩
            refine ⟨_, rfl, qx, CP, dq, _, _, rfl, o14, OP.cl, OP.no "fields" (by decide +kernel), rfl, _, rfl, _, rfl, oa, _, rfl, SqT.of (t14 _ _ oqa), (by show ¬ ((1 : Nat) = 0 ∧ _); exact fun y => absurd y.1 (by decide)), fun f2 nf2 => ?_⟩
            have ecut2 : cutV ((toldF S').map V.int) (some 1) (some 4) = ([S'.nm .many, S'.nm .more, S'.nm .own] : List Int).map V.int := rfl
            rw [ecut2]
            have z15 := same_new (o := .tup (([S'.nm .many, S'.nm .more, S'.nm .own] : List Int).map V.int)) nf2
            have gf2 : upd G14 f2 (.tup (([S'.nm .many, S'.nm .more, S'.nm .own] : List Int).map V.int)) f2 = some (.tup (([S'.nm .many, S'.nm .more, S'.nm .own] : List Int).map V.int)) := upd_same
            generalize upd G14 f2 (.tup (([S'.nm .many, S'.nm .more, S'.nm .own] : List Int).map V.int)) = G15 at *
            refine ⟨_, rfl, _, rfl, _, rfl, by show 3 ≤ sizeLine; decide, fun t5 nt5 => ?_⟩
            have z16 := same_new (o := .tup [.int r.many, .int r.more, .int r.own]) nt5
            have g5 : upd G15 t5 (.tup [.int r.many, .int r.more, .int r.own]) t5 = some (.tup (([r.many, r.more, r.own] : List Int).map V.int)) := upd_same
            generalize upd G15 t5 (.tup [.int r.many, .int r.more, .int r.own]) = G16 at *
            have e3m : ([S'.nm .many, S'.nm .more, S'.nm .own] : List Int) = [r.many, r.more, r.own] := by rw [SM'.many, SM'.more, SM'.own]
            refine ne_same (d := tI [r.many, r.more, r.own]) (e3m ▸ tI_dp (SqT.of (z16 _ _ gf2))) (tI_dp (SqT.of g5)) (tI_shaped _) ⟨_, rfl, iteF ?_⟩
            have z46 : Same G14 G16 := fun a o e => z16 _ _ (z15 _ _ e)
            have o16 := z46 _ _ o14
            have s16 := z46 _ _ (t14 _ _ oqe)
            have r16 := z46 _ _ r0
            have e16 := z46 _ _ rqe
            have NDk : (S.se.map (·.1)).Nodup := nodup_of (f := fun y => (y + (bn : Int)) % r.c.sz) ND'
            refine ⟨_, rfl, qx, CP, dq, _, _, rfl, o16, OP.cl, OP.no "seals" (by decide +kernel), rfl, ?_⟩
            refine ⟨re, _, e16, trivial, fun lk => ?_⟩
            have F0 : ∀ {a : Addr} {o : HO}, G16 a = some o → (∀ kv, o ≠ .dK kv) → upd G16 re (.frz lk (.dK (sealK S.se))) a = some o := fun h n => by
              rw [upd_ne (fun y => by rw [y, e16] at h; exact n _ (Option.some.inj h).symm)]; exact h
            refine ⟨_, rfl, px, CP, dp2, _, _, rfl, F0 r16 (fun _ y => nomatch y), OP.cl, OP.no "seals" (by decide +kernel), rfl, re, lk, rfl, .inl ⟨sealK S.se, upd_same, fun D3 nD3 => ?_⟩⟩
            have ktF : KeepT G16 (upd G16 re (.frz lk (.dK (sealK S.se)))) := fun a xs h => by
              have ne : a ≠ re := fun y => by
                rw [y] at h
                rcases h with h | ⟨o, h⟩ <;> rw [e16] at h <;> cases h
              rcases h with h | ⟨o, h⟩
              · exact .inl (by rw [upd_ne ne]; exact h)
              · exact .inr ⟨o, by rw [upd_ne ne]; exact h⟩
            have hc16 := ktF.seq (sqT_same (fun a o e => z46 _ _ (t14 _ _ (t13 _ _ e))) hc1')
            have p16 := F0 r16 (fun _ y => nomatch y)
            have eF : upd G16 re (.frz lk (.dK (sealK S.se))) re = some (.frz lk (.dK (sealK S.se))) := upd_same
            refine lc_it walk_keys (fun j G' => Same (upd G16 re (.frz lk (.dK (sealK S.se)))) G' ∧ PaAt G' D3 ((S.se.map fun q => ((q.1 + (bn : Int)) % r.c.sz, q.2)).take j) ∧ j ≤ S.se.length) ⟨same_new nD3, PaAt.new, Nat.zero_le _⟩ (fun j G' _ ⟨s, _⟩ => s _ _ eF) ?_ ?_
            · rintro j x G' G'' hj ⟨s, PA, _⟩ ⟨rfl, kk, vv, hkv, rfl⟩
              unfold sealK at hkv
              rw [List.getElem?_map] at hkv
              obtain ⟨⟨k0', v0'⟩, hkv2, ekv⟩ := Option.map_eq_some_iff.mp hkv
              cases ekv
              have ljs : j < S.se.length := (List.getElem?_eq_some_iff.mp hkv2).1
              refine ⟨rfl, _, rfl, _, rfl, _, _, rfl, rfl, .inl ⟨_, rfl, _, rfl, cp', _, 0, _, ecv', rfl, sqT_same s hc16, atI_nat (j := 0) rfl, _, _, rfl, rfl, (by show r.c.sz ≠ 0; omega), ?_⟩⟩
              refine ⟨_, rfl, px, CP, dp2, _, _, rfl, s _ _ p16, OP.cl, OP.no "seals" (by decide +kernel), rfl, _, rfl, re, _, rfl, .inl ⟨sealK S.se, .inl k0', .inr ⟨lk, s _ _ eF⟩, rfl, by rw [val_seal, valI_at NDk hkv2]; rfl⟩, (by show 2 ≤ sizeLine; decide), fun t6 n6 => ?_⟩
              have eq1 : (S.se.map fun q => ((q.1 + (bn : Int)) % r.c.sz, q.2))[j]? = some ((k0' + (bn : Int)) % r.c.sz, v0') := by rw [List.getElem?_map, hkv2]; rfl
              have z19 := same_new (o := .tup [.int ((k0' + (bn : Int)).fmod r.c.sz), .int v0']) n6
              have g6 : upd G'' t6 (.tup [.int ((k0' + (bn : Int)).fmod r.c.sz), .int v0']) t6 = some (.tup [.int ((k0' + (bn : Int)) % r.c.sz), .int v0']) := by
                rw [upd_same, ← Int.fmod_eq_emod_of_nonneg _ (show 0 ≤ r.c.sz by omega)]
              obtain ⟨acc, ha, hl, PA2⟩ := PA.app (q := ((k0' + (bn : Int)) % r.c.sz, v0')) z19 n6 g6 (by rw [List.length_take]; omega)
              refine ⟨acc, ha, hl, fun a o e => ?_, ?_, by omega⟩
              · rw [upd_ne (fun y => by rw [y, nD3] at e; cases e)]; exact z19 _ _ (s _ _ e)
              · rw [take_snoc_ eq1]; exact PA2
            · rintro G17 ⟨s, PA, _⟩
              have lse : (sealK S.se).length = S.se.length := by unfold sealK; rw [List.length_map]
              have eT : (S.se.map fun q => ((q.1 + (bn : Int)) % r.c.sz, q.2)).take (sealK S.se).length = S.se.map fun q => ((q.1 + (bn : Int)) % r.c.sz, q.2) := List.take_of_length_le (by rw [List.length_map, lse]; exact Nat.le_refl _)
              rw [eT] at PA
              refine ⟨s _ _ eF, ?_⟩
              have u17 : Same G16 (upd G17 re (.dK (sealK S.se))) := unlock_same e16 s
              obtain ⟨ps, hD3, hA⟩ := PA
              have e17 := s _ _ eF
              have nDr : D3 ≠ re := fun y => by rw [y, e17] at hD3; cases hD3
              refine ⟨D3, ps, _, rfl, SqL.of (by rw [upd_ne nDr]; exact hD3), ats_P (fun a xs h => by rw [upd_ne (fun y => by rw [y, e17] at h; cases h)]; exact h) hA, fun p5 n5 => ?_⟩
              have ndT : ((S.se.map fun q => ((q.1 + (bn : Int)) % r.c.sz, q.2)).map (·.1)).Nodup := by rw [List.map_map]; exact ND'
              rw [merge_seal ndT]
              have z18 := same_new (o := .dK (sealK (S.se.map fun q => ((q.1 + (bn : Int)) % r.c.sz, q.2)))) n5
              refine ⟨oe, p5, sealK S'.se, _, rfl, rfl, z18 _ _ (u17 _ _ s16), upd_same, ?_, fun q hq => ?_, ?_⟩
              · unfold sealK; rw [List.length_map, List.length_map, List.length_map, LE']
              · obtain ⟨q0', hq0, rfl⟩ := List.mem_map.mp hq
                exact ⟨by rw [val_seal, SV' q0' hq0]; rfl, rfl⟩
              · refine ⟨_, rfl, iteF ?_⟩
                have sf : Same G10 _ := fun a o e => z18 _ _ (u17 _ _ (z46 _ _ (t14 _ _ (t13 _ _ (u12 _ _ e)))))
                exact ⟨_, _, _, _, _, _, _, _, _, _, _, _, _, rfl, fun a o n e => sf _ _ (sG10 a o n e), B10.same sf⟩
      · have hocc := Bool.eq_false_iff.mpr hocc
        rw [hocc]
        refine iteF ?_
        exact ⟨_, _, _, _, _, _, _, _, _, _, _, _, _, rfl, sG9, BG9.more (by omega)⟩
    · rintro σ G ⟨v4, v5, v6, v7, v8, v9, v10, v11, v12, v13, v14, v15, v18, rfl, sG, BG⟩
      have OP := OPl'
      obtain ⟨_, _, _, hb5, _⟩ := B5.ex
      have RAG : RulAt G rx CR "size" 1 0 := RA5.imp fun dx e => sG _ _ (fun y => by rw [y, hb5] at e; cases e) e
      have E1 := ends_ok
      obtain ⟨EA, EZ⟩ := and_t E1
      obtain ⟨a1, EA⟩ := and_t EA
      obtain ⟨a2, EA⟩ := and_t EA
      obtain ⟨a3, EA⟩ := and_t EA
      obtain ⟨wA, SA, bA, hA, EA⟩ := plays_of EA
      obtain ⟨f1, EA⟩ := and_t EA
      obtain ⟨f2, f3⟩ := and_t EA
      have f1 : toldF SA = [2, 3, 0, 2, 0] := of_decide_eq_true f1
      have f2 : SA.se = [(2, 2), (3, 1)] ∨ SA.se = [(3, 1), (2, 2)] := of_decide_eq_true f2
      have f3 : bA = [] := of_decide_eq_true f3
      have POA := pl_of (r := rowA) (cs_ok a1).1 (cs_ok a1).2 a2 a3 hA
      obtain ⟨rs, ds, jm, fs, e1, e2, e3, e4, PP⟩ := POA.ex
      have ezN : textL (rightR "note") = zN := by
        have := congrArg (fun l : List Str => l.getD 0 "") texts_of
        exact this
      obtain ⟨h41, h42⟩ := and_t (List.all_eq_true.mp four_ok "note" (List.mem_cons_self ..))
      obtain ⟨h42, h43⟩ := and_t h42
      refine ⟨_, rfl, "note", rfl, of_decide_eq_true h41, fun ra G1 s1 LA => ⟨ra, rightR "note", rfl, LA, h42, of_decide_eq_true h43, fun G2 s2 => ?_⟩⟩
      rw [ezN]
      intro cx dcx ncx ndcx nexc
      refine ⟨cx, dcx, "note", .ref rx, zN, rs, ds, jm, rfl, POA.kin, upd_same, POA.ln, POA.ro, e1, e2, fun G3 kp3 CF => ⟨rfl, ?_⟩⟩
      have s3 : Same G2 G3 := made_same ncx ndcx kp3
      clear kp3
      have CDP := CF.play e1 e3 e4
      have RA3 : RulAt G3 rx CR "size" 1 0 := RAG.imp fun dx e => s3 _ _ (s2 _ _ (s1 _ _ e))
      refine ⟨(by show 2 ≤ sizeLine; decide), fun p1 n1 => ⟨(by show 0 ≤ sizeLine; decide), fun p2 n2 => ⟨(by show 5 ≤ sizeLine; decide), fun p3 n3 => ?_⟩⟩⟩
      have z1 := same_new (o := .tup [.int 2, .int 1]) n1
      have z2 := same_new (o := .tup []) n2
      have z3 := same_new (o := .tup [.int 4, .int 1, .ref p1, .ref p2, .int 1]) n3
      have z13 : Same G3 _ := fun a o e => z3 _ _ (z2 _ _ (z1 _ _ e))
      have cA : CsAt K _ (.ref p3) rowA.c := ⟨p3, p1, p2, rfl, SqT.of upd_same, SqT.of (z3 _ _ (z2 _ _ upd_same)), SqT.of (z3 _ _ upd_same)⟩
      refine ⟨cx, rx, "note", "size", fs, jm, 1, 0, .ref p3, rowA.c, wA, SA, bA, rfl, CDP.same z13, RA3.imp (fun dx e => z13 _ _ e), cA, POA.co, POA.cs, PP, fun px G4 s4 PL => ?_⟩
      have RA4 : RulAt G4 rx CR "size" 1 0 := RA3.imp fun dx e => s4 _ _ (z13 _ _ e)
      clear cA
      obtain ⟨dp, pa, pb, pc, pd, pe, pf', q0, qa, qb, qc, qd, qe, qf⟩ := PL.ex
      rw [f1] at qa
      rw [f3] at qf
      refine ⟨_, rfl, px, CP, dp, _, _, rfl, q0, OP.cl, OP.no "fields" (by decide +kernel), rfl, (by show 5 ≤ sizeLine; decide), fun t1 nt1 => ?_⟩
      have y1 := same_new (o := .tup [.int 2, .int 3, .int 0, .int 2, .int 0]) nt1
      refine ne_same (d := tI [2, 3, 0, 2, 0]) (tI_dp (SqT.of (y1 _ _ qa))) (tI_dp (SqT.of upd_same)) (tI_shaped _) ⟨_, rfl, iteF ?_⟩
      refine ⟨_, rfl, px, CP, dp, _, _, rfl, y1 _ _ q0, OP.cl, OP.no "seals" (by decide +kernel), rfl, fun d1 nd1 => ?_⟩
      have y2 := same_new (o := .dK []) nd1
      refine ⟨upd_same, [(.inl 2, .int 2), (.inl 3, .int 1)], rfl, by decide, ?_⟩
      have em : mergeK [] [((.inl 2 : Key), V.int 2), ((.inl 3 : Key), V.int 1)] = sealK [(2, 2), (3, 1)] := merge_seal (l := [(2, 2), (3, 1)]) (by decide)
      have ne1 : pe ≠ d1 := fun y => by
        have := y1 _ _ qe
        rw [y, nd1] at this
        cases this
      refine ⟨pe, d1, sealK SA.se, sealK [(2, 2), (3, 1)], rfl, rfl, (by rw [upd_ne ne1]; exact y2 _ _ (y1 _ _ qe)), (by rw [upd_same]; exact congrArg (fun l => some (HO.dK l)) em), ?_, fun q hq => ?_, ⟨_, rfl, iteF ?_⟩⟩
      · rcases f2 with e | e <;> rw [e] <;> rfl
      · obtain ⟨q1, hq1, rfl⟩ := List.mem_map.mp hq
        rw [val_seal]
        rcases f2 with e | e <;> rw [e] at hq1 <;> rcases List.mem_cons.mp hq1 with y | hq1
        · subst y; exact ⟨rfl, rfl⟩
        · rw [List.mem_singleton.mp hq1]; exact ⟨rfl, rfl⟩
        · subst y; exact ⟨rfl, rfl⟩
        · rw [List.mem_singleton.mp hq1]; exact ⟨rfl, rfl⟩
      have y3 : Same G4 (upd (upd (upd G4 t1 (.tup [.int 2, .int 3, .int 0, .int 2, .int 0])) d1 (.dK [])) d1 (.dK (mergeK [] [((.inl 2 : Key), V.int 2), ((.inl 3 : Key), V.int 1)]))) := fun a o e => by
        have nad : a ≠ d1 := fun y => by
          have := y1 _ _ e
          rw [y, nd1] at this
          cases this
        rw [upd_ne nad]
        exact y2 _ _ (y1 _ _ e)
      show tTest _ _ (upd (upd (upd G4 t1 (.tup [.int 2, .int 3, .int 0, .int 2, .int 0])) d1 (.dK [])) d1 (.dK (mergeK [] [((.inl 2 : Key), V.int 2), ((.inl 3 : Key), V.int 1)]))) _
      generalize upd (upd (upd G4 t1 (.tup [.int 2, .int 3, .int 0, .int 2, .int 0])) d1 (.dK [])) d1 (.dK (mergeK [] [((.inl 2 : Key), V.int 2), ((.inl 3 : Key), V.int 1)])) = G5 at *
      refine ⟨_, rfl, px, CP, dp, _, _, rfl, y3 _ _ q0, OP.cl, OP.no "broken" (by decide +kernel), rfl, (by show 0 ≤ sizeLine; decide), fun t2 nt2 => ?_⟩
      have y4 := same_new (o := .tup []) nt2
      refine ne_same (d := tS []) (tS_dp (SqT.of (y4 _ _ (y3 _ _ qf)))) (tS_dp (ws := []) (SqT.of upd_same)) rfl ⟨_, rfl, iteF ?_⟩
      have RA6 : RulAt (upd G5 t2 (.tup [])) rx CR "size" 1 0 := RA4.imp fun dx e => y4 _ _ (y3 _ _ e)
      show tSeq _ _ _ _ (upd G5 t2 (.tup []))
      generalize upd G5 t2 (.tup []) = G6 at *
      clear PL PP e1 e2 e3 e4 CDP POA hA qa qb qc qd qe qf q0 CF
      have EZ := of_decide_eq_true EZ
      obtain ⟨a1, EZ⟩ := and_t EZ
      obtain ⟨a2, EZ⟩ := and_t EZ
      obtain ⟨a3, EZ⟩ := and_t EZ
      obtain ⟨wZ, SZ, bZ, hZ, EZ⟩ := plays_of EZ
      obtain ⟨f1, f3⟩ := and_t EZ
      have f1 : toldF SZ = [1, 0, 0, 0, 1] := of_decide_eq_true f1
      have f3 : bZ = (["rows"] : List Str) := of_decide_eq_true f3
      have POZ := pl_of (r := rowZ) (cs_ok a1).1 (cs_ok a1).2 a2 a3 hZ
      obtain ⟨rs, ds, jm, fs, e1, e2, e3, e4, PP⟩ := POZ.ex
      refine ⟨_, rfl, ?_⟩
      intro cz dcz nz ndz nexz
      refine ⟨cz, dcz, "fail", .ref rx, _, rs, ds, jm, rfl, POZ.kin, upd_same, POZ.ln, POZ.ro, e1, e2, fun G7 kp7 CF => ⟨rfl, ?_⟩⟩
      have s7 : Same G6 G7 := made_same nz ndz kp7
      clear kp7
      have CDP := CF.play e1 e3 e4
      have RA7 : RulAt G7 rx CR "size" 1 0 := RA6.imp fun dx e => s7 _ _ e
      refine ⟨(by show 0 ≤ sizeLine; decide), fun q1 m1 => ⟨(by show 0 ≤ sizeLine; decide), fun q2 m2 => ⟨(by show 5 ≤ sizeLine; decide), fun q3 m3 => ?_⟩⟩⟩
      have w1 := same_new (o := .tup []) m1
      have w2 := same_new (o := .tup []) m2
      have w3 := same_new (o := .tup [.int 3, .int 1, .ref q1, .ref q2, .int 3]) m3
      have w13 : Same G7 _ := fun a o e => w3 _ _ (w2 _ _ (w1 _ _ e))
      have cZ : CsAt K _ (.ref q3) rowZ.c := ⟨q3, q1, q2, rfl, SqT.of upd_same, SqT.of (w3 _ _ (w2 _ _ upd_same)), SqT.of (w3 _ _ upd_same)⟩
      refine ⟨cz, rx, "fail", "size", fs, jm, 1, 0, .ref q3, rowZ.c, wZ, SZ, bZ, rfl, CDP.same w13, RA7.imp (fun dx e => w13 _ _ e), cZ, POZ.co, POZ.cs, PP, fun py G8 s8 PL => ?_⟩
      obtain ⟨dp, pa, pb, pc, pd, pe, pf', q0, qa, qb, qc, qd, qe, qf⟩ := PL.ex
      rw [f1] at qa
      rw [f3] at qf
      refine ⟨_, rfl, py, CP, dp, _, _, rfl, q0, OP.cl, OP.no "broken" (by decide +kernel), rfl, (by show 1 ≤ sizeLine; decide), fun t3 nt3 => ?_⟩
      have y5 := same_new (o := .tup [.str "rows"]) nt3
      refine eq_tS (ms := ["rows"]) (ns := ["rows"]) (SqT.of (y5 _ _ qf)) (SqT.of upd_same) (by decide +kernel) (by decide +kernel) ?_
      rw [decide_eq_true (show ([Str.ofString "rows"] : List Str) = [Str.ofString "rows"] from rfl)]
      refine ⟨_, rfl, iteT ?_⟩
      refine ⟨_, rfl, py, CP, dp, _, _, rfl, y5 _ _ q0, OP.cl, OP.no "fields" (by decide +kernel), rfl, (by show 5 ≤ sizeLine; decide), fun t4 nt4 => ?_⟩
      have y6 := same_new (o := .tup [.int 1, .int 0, .int 0, .int 0, .int 1]) nt4
      refine ⟨tI [1, 0, 0, 0, 1], tI [1, 0, 0, 0, 1], tI_dp (SqT.of (y6 _ _ (y5 _ _ qa))), tI_dp (SqT.of upd_same), tI_shaped _, tI_shaped _, ?_⟩
      rw [tI_eqv, decide_eq_true rfl]
      exact k _
end
end IdL
namespace Law
open PySem L2
/-- one error class as the top has left it -/
structure CF (P : Program) (K : PySem.W.Frag) (C fI CH : Addr) (nm qual : Str) (st : Stmt) (fs : List Str) : Prop where
  ns : PySem.W.nsIn K mainGlobals nm = some (some (.ref C))
  T : Er.Txt P K C fI qual st fs
  mro : ∀ v, PySem.W.mroIn K C v = some ((Value.ref C :: .ref CH :: veTail).contains v)
  E : ExcC K C
theorem cf_mk {P : Program} {K : PySem.W.Frag} {C fI CH cda cc : Addr} {nm qual n1 q1 : Str} {st : Stmt} {fs : List Str} {N : Addr} {bs : List Value} {sn : List Str} {sub : List Value} {ab : Bool} {col : Option Bool} {dd : Option Addr} {m0 m1 m2 m3 m5 : Option Value}
    {a0 b0 c0 kV doc pm ct : Value} {a1 b1 c1 an : Option Addr} {a2 b2 c2 : Array (Option Value)} {vs : Array Value} {file : Str} {tf : Tok}
    (ns : PySem.W.nsIn K mainGlobals nm = some (some (.ref C))) (xL : K.lookup C = some (excClassObj n1 q1 C N bs (.ref CH :: veTail) true sn sub ab col dd m0 m1 m2 m3 m5 "ValueError.__new__"))
    (iC : PySem.W.findIn K (.ref C) "__init__" = some (some (.ref fI))) (l : K.lookup fI = some ⟨a0, a1, .func (PySem.W.ksFn "__init__" qual (defArgs st) (defBody st) (defScope st) .none kV doc pm an (.ref cda) ct cc), a2⟩)
    (ld : K.lookup cda = some ⟨b0, b1, .fields vs, b2⟩) (le : K.lookup cc = some ⟨c0, c1, .cell (some (.ref C)), c2⟩) (cd : PySem.W.codeIn K (.ref cda) qual = true) (hv : vs[2]? = some (.str file tf)) (hf : ((P.main.file : Str) == file) = true)
    (tI : PySem.W.typeIn K (.ref fI) = some (.type "function")) (sa : PySem.W.findIn K (.ref C) "__setattr__" = some (some (.builtin "object.__setattr__"))) (ga : PySem.W.findIn K (.ref C) "__getattribute__" = some (some (.builtin "BaseException.__getattribute__")))
    (gg : PySem.W.findIn K (.ref C) "__getattr__" = some none) (gc : PySem.W.findIn K (.ref C) "__class__" = some (some (.builtin "object.__class__"))) (tyC : PySem.W.typeIn K (.ref C) = some (.type "type")) (kC : PySem.W.keepIn K (.ref C) = true)
    (sup : PySem.W.ks_superIn K C C "__init__" = some (some (.builtin "ValueError.__init__"))) (anyS : PySem.W.nsIn K cStatics "thirdparty.any" = some none) (noN : ∀ f ∈ fs, PySem.W.findIn K (.ref C) f = some none) (top : (P.main.scope.names.lookup ("super" : Str)).isSome = false)
    (sp : PySem.W.specialIn K (.builtin "object.__class__") "__get__" = some (some (.builtin "getset_descriptor.__get__"))) (tk : PySem.W.takesIn K (.builtin "object.__class__") = some true) : CF P K C fI CH nm qual st fs := by
  have hcl : PySem.W.clsIn K C = some { name := n1, bases := bs, mro := .ref C :: .ref CH :: veTail, ns := N, qualname := q1, hasDict := true, slotNames := sn, subclasses := sub, abstract := ab, collection := col, hasDel := false } := by
    unfold PySem.W.clsIn
    rw [xL] <;> rfl
  have mro : ∀ v, PySem.W.mroIn K C v = some ((Value.ref C :: .ref CH :: veTail).contains v) := fun v => by
    unfold PySem.W.mroIn
    rw [hcl]
    rfl
  have hd : PySem.W.hasDictIn K C = true := by
    unfold PySem.W.hasDictIn
    rw [hcl]
    rfl
  have ty : ∀ T : String, veTail.contains (.type T) = true → PySem.W.mroIn K C (.type T) = some true := fun T h => by
    rw [mro]
    refine congrArg some ?_
    have e1 : (Value.type T == Value.ref C) = false := rfl
    have e2 : (Value.type T == Value.ref CH) = false := rfl
    rw [List.contains_cons, List.contains_cons, e1, e2, h]
    rfl
  have oc : OexC K C := ⟨⟨n1, q1, N, bs, .ref CH :: veTail, sn, sub, ab, col, dd, m0, m1, m2, m3, m5, xL, by
    show PySem.HandSPX.refsVE veTail = true
    decide +kernel⟩, sa, ty "BaseException" (by decide +kernel), tyC, kC⟩
  refine ⟨ns, ⟨oc, ⟨ga, gg, ty "BaseException" (by decide +kernel), hd⟩, iC, tI, sup, ?_, ty "ValueError" (by decide +kernel), anyS, noN, top, ⟨_, _, _, _, _, _, _, _, _, _, _, _, _, _, _, _, _, _, _, l, cd, ld, hv, hf, le⟩⟩, mro, ⟨ga, gg, ty "BaseException" (by decide +kernel), hd, gc, sp, tk, ty "object" (by decide +kernel)⟩⟩
  rw [mro, List.contains_cons, beq_self_eq_true, Bool.true_or]
end Law
/-! The head by one run: what is looked at is a Bool of the written part, and each def as it stands. -/
namespace Hd
open PySem PySem.Spec PyProof.Rows L2 He
theorem isNon_ok {v : Value} (h : isNon v = true) : v = .none := by cases v <;> first | rfl | cases h
theorem func_of {K : PySem.W.Frag} {a : Addr} {x qual : Str} {st : Stmt} {cl : List Str} (e : fnO K a = fnV x qual st cl) : ∃ oc od fd osl, K.lookup a = some ⟨oc, od, .func fd, osl⟩ ∧ fd.name = x ∧ fd.qualname = qual ∧ fd.params = defArgs st ∧ fd.body = .stmts (defBody st) ∧ fd.scope = defScope st ∧ fd.globals = mainGlobals ∧ fd.closure.map (·.1) = cl ∧ fd.builtins = builtinsNs := by
  unfold fnO at e
  split at e
  · rename_i oc od fd osl lk
    have q := Option.some.inj e
    simp only [Prod.mk.injEq] at q
    exact ⟨oc, od, fd, osl, lk, q.1, q.2.1, q.2.2.1, q.2.2.2.1, q.2.2.2.2.1, q.2.2.2.2.2.1, q.2.2.2.2.2.2.1, q.2.2.2.2.2.2.2⟩
  · cases e
theorem fun_of {K : PySem.W.Frag} {a : Addr} {x qual : Str} {st : Stmt} (e : fnO K a = fnV x qual st []) (b : fnB K a qual = true) : ∃ fd, Fun K x qual st a fd := by
  obtain ⟨oc, od, fd, osl, lk, h1, h2, h3, h4, h5, h6, h7, h8⟩ := func_of e
  obtain ⟨kp, b2⟩ := ba b
  rw [lk] at b2
  obtain ⟨cd, dn⟩ := ba b2
  have dn' := isNon_ok dn
  have cl : fd.closure = [] := List.map_eq_nil_iff.mp h7
  obtain ⟨nm, qn, pa, bo, sc, gl, clo, df, kd, doc, pm, an, code, ct, bl⟩ := fd
  dsimp only at h1 h2 h3 h4 h5 h6 h8 cl dn' cd
  subst h1 h2 h3 h4 h5 h6 h8 cl dn'
  exact ⟨_, ⟨⟨oc, od, kd, doc, pm, an, code, ct, osl, rfl, lk, cd⟩, kp⟩⟩
/-! ### an error class -/
theorem fileB_ok {P : Program} {K : PySem.W.Frag} {cda : Addr} (h : fileB P K cda = true) : ∃ b0 b1 vs b2 file tf, K.lookup cda = some ⟨b0, b1, .fields vs, b2⟩ ∧ vs[2]? = some (.str file tf) ∧ ((P.main.file : Str) == file) = true := by
  unfold fileB at h
  split at h
  · rename_i b0 b1 vs b2 lk
    split at h
    · rename_i file tf hv
      exact ⟨b0, b1, vs, b2, file, tf, lk, hv, h⟩
    · cases h
  · cases h
theorem cellB_ok {K : PySem.W.Frag} {cc C : Addr} (h : cellB K cc C = true) : ∃ c0 c1 c2, K.lookup cc = some ⟨c0, c1, .cell (some (.ref C)), c2⟩ := by
  unfold cellB at h
  split at h
  · rename_i c0 c1 D c2 lk
    obtain rfl : D = C := eq_of_beq h
    exact ⟨c0, c1, c2, lk⟩
  · cases h
theorem refOf_ok {v : Value} {a : Addr} (h : refOf v = some a) : v = .ref a := by cases v <;> first | (cases h; rfl) | cases h
theorem initB_ok {P : Program} {K : PySem.W.Frag} {C : Addr} {qual : Str} {fd : FuncData} (h : initB P K C qual fd = true) :
    fd.defaults = .none ∧ ∃ q cda, fd.closure = [q] ∧ fd.code = .ref cda ∧ PySem.W.codeIn K (.ref cda) qual = true ∧ fileB P K cda = true ∧ cellB K q.2 C = true := by
  obtain ⟨h1, h2⟩ := ba h
  refine ⟨isNon_ok h1, ?_⟩
  split at h2
  · rename_i q hc
    split at h2
    · rename_i cda hr
      obtain ⟨h3, h4⟩ := ba h2
      obtain ⟨h5, h6⟩ := ba h4
      exact ⟨q, cda, hc, refOf_ok hr, h3, h5, h6⟩
    · cases h2
  · cases h2
theorem clsB_ok {K : PySem.W.Frag} {C CH : Addr} (h : clsB K C CH = true) : ∃ n1 q1 N bs sn sub ab col dd m0 m1 m2 m3 m5, K.lookup C = some (excClassObj n1 q1 C N bs (.ref CH :: Law.veTail) true sn sub ab col dd m0 m1 m2 m3 m5 "ValueError.__new__") := by
  unfold clsB at h
  split at h
  · rename_i dd cd sl lk
    obtain ⟨h1, h⟩ := ba h
    obtain ⟨h2, h⟩ := ba h
    obtain ⟨h3, h4⟩ := ba h
    have hm := of_decide_eq_true h1
    split at h4
    · rename_i k0 k1 k2 k3 n k5 hs
      obtain rfl : n = "ValueError.__new__" := eq_of_beq h4
      obtain ⟨nm, bs, mro, ns, qn, hd, sn, sub, ab, col, del⟩ := cd
      dsimp only at hm h2 h3
      have hdel : del = false := by simpa using h3
      subst hm h2 hdel
      have hsl : sl = #[k0, k1, k2, k3, some (.builtin "ValueError.__new__"), k5] := by
        obtain ⟨l⟩ := sl
        simp only at hs
        rw [hs]
      subst hsl
      exact ⟨_, _, _, _, _, _, _, _, _, _, _, _, _, _, lk⟩
    · cases h4
  · cases h
theorem err_of {P : Program} {K : PySem.W.Frag} {x hn qual : Str} {st : Stmt} {fs : List Str} (b : errB P K x hn qual fs = true) (c : comB K = true) (e : fnO K (ma K (ga K x) "__init__") = fnV "__init__" qual st ["__class__"]) (top : (P.main.scope.names.lookup ("super" : Str)).isSome = false) :
    Law.CF P K (ga K x) (ma K (ga K x) "__init__") (ga K hn) x qual st fs := by
  obtain ⟨b1, b⟩ := ba b
  obtain ⟨b2, b⟩ := ba b
  obtain ⟨b3, b⟩ := ba b
  obtain ⟨b4, b⟩ := ba b
  obtain ⟨b5, b⟩ := ba b
  obtain ⟨b6, b⟩ := ba b
  obtain ⟨b7, b⟩ := ba b
  obtain ⟨b8, b⟩ := ba b
  obtain ⟨b9, b⟩ := ba b
  obtain ⟨b10, b⟩ := ba b
  obtain ⟨b11, b⟩ := ba b
  obtain ⟨b12, b13⟩ := ba b
  obtain ⟨c1, c⟩ := ba c
  obtain ⟨c2, c3⟩ := ba c
  obtain ⟨n1, q1, N, bs, sn, sub, ab, col, dd, m0, m1, m2, m3, m5, xL⟩ := clsB_ok b2
  obtain ⟨oc, od, fd, osl, lk, h1, h2, h3, h4, h5, h6, h7, h8⟩ := func_of e
  rw [lk] at b4
  obtain ⟨dn, q, cda, hclo, hcode, d1, d2, d3⟩ := initB_ok b4
  obtain ⟨f0, f1, vs, f2, file, tf, lk2, hv, hf⟩ := fileB_ok d2
  obtain ⟨g0, g1, g2, lk3⟩ := cellB_ok d3
  obtain ⟨cn, cc⟩ := q
  obtain ⟨nm, qn, pa, bo, sc, gl, clo, df, kd, doc, pm, an, code, ct, bl⟩ := fd
  dsimp only at h1 h2 h3 h4 h5 h6 h7 h8 dn hclo hcode
  subst hclo hcode
  have hn1 : cn = ("__class__" : Str) := by
    have z : ([cn] : List Str) = [("__class__" : Str)] := h7
    exact (List.cons.inj z).1
  subst h1 h2 h3 h4 h5 h6 h8 dn hn1
  exact Law.cf_mk (eqO_ok b1) xL (eqO_ok b3) lk lk2 lk3 d1 hv hf (of_decide_eq_true b5) (eqO_ok b6) (eqO_ok b7) (eqO_ok b8) (eqO_ok b9) (of_decide_eq_true b10) b11 (eqO_ok b12) (eqO_ok c1) (fun f hf => eqO_ok (List.all_eq_true.mp b13 f hf)) top (eqO_ok c2) (of_decide_eq_true c3)
/-! ### the Hook -/
theorem tab_ok {ts : List (Str × List Str)} {K : PySem.W.Frag} {w : World} (h : tabO ts K = tabV ts w) {t : Str × List Str} (ht : t ∈ ts) : ∃ es n, KDict K w (ga K t.1) es n := by
  obtain ⟨i, hi⟩ := List.mem_iff_getElem?.mp ht
  have e2 : (tabO ts K)[i]? = (tabV ts w)[i]? := by rw [h]
  unfold tabO tabV at e2
  rw [List.getElem?_map, List.getElem?_map, hi] at e2
  exact dicW_ok (Option.some.inj e2)
theorem obL_eq {as : List Addr} {ex : PySem.W.Frag → Bool} {fv : PySem.W.Frag → List FnO} {fw : List FnO} {ts : List (Str × List Str)} (s : PySem.W.SharedT) : obL as ex fv ts s = (hookL as ex fv fw ts).obs s.abs := by
  have e : HandSHeadRun.getT s = s.abs.heap.get? := funext fun a => HandSHeadRun.getT_eq s a
  unfold obL
  rw [e] <;> rfl
/-! ### tuples, dicts of texts -/
theorem tupAt_ok {K : PySem.W.Frag} {a : Addr} {xs : List Str} (h : tupAt K a xs = true) : IdL.KTup K a (xs.map V.str) := by
  unfold tupAt at h
  cases q : K.lookup a with
  | none =>
    rw [q] at h
    cases h
  | some o =>
    obtain ⟨oc, od, dt, osl⟩ := o
    rw [q] at h
    cases oc with
    | type c =>
      cases dt with
      | seq its n =>
        obtain ⟨h1, h2⟩ := ba (show (decide (c = "tuple") && (decide (its.size ≤ sizeLine) && relAll (xs.map V.str) its.toList)) = true from h)
        obtain ⟨h3, h4⟩ := ba h2
        exact ⟨_, its, n, q, congrArg Value.type (of_decide_eq_true h1), rfl, of_decide_eq_true h3, relAll_ok h4⟩
      | _ => cases h
    | _ => cases dt <;> cases h
theorem kdct_of {K : PySem.W.Frag} {w : World} {d : Addr} {k : Str} (t : ∃ es n, KDict K w d es n) (b : atB K d k = true) : KDct K w d k (.ref (atK K d k)) := by
  obtain ⟨es, n, D⟩ := t
  exact ⟨es, n, _, D.at_, D.lit, eqO_ok b, rfl⟩

/-! ### defaults -/
theorem funD_of {K : PySem.W.Frag} {a : Addr} {x qual : Str} {st : Stmt} {dvs : List V} (hd : dvs ≠ []) (e : fnO K a = fnV x qual st []) (b : fnDB K a qual dvs = true) : ∃ fd, FunD K x qual (defArgs st) (defBody st) (defScope st) dvs [] a fd := by
  obtain ⟨oc, od, fd, osl, lk, h1, h2, h3, h4, h5, h6, h7, h8⟩ := func_of e
  obtain ⟨kp, b2⟩ := ba b
  rw [lk] at b2
  obtain ⟨cd, dn⟩ := ba b2
  have cl : fd.closure = [] := List.map_eq_nil_iff.mp h7
  obtain ⟨nm, qn, pa, bo, sc, gl, clo, df, kd, doc, pm, an, code, ct, bl⟩ := fd
  dsimp only at h1 h2 h3 h4 h5 h6 h8 cl dn cd
  subst h1 h2 h3 h4 h5 h6 h8 cl
  refine ⟨_, ⟨⟨oc, od, df, kd, doc, pm, an, code, ct, osl, rfl, lk, cd, .inr ⟨hd, ?_⟩, .inl rfl⟩, kp⟩⟩
  unfold dflB at dn
  split at dn
  · rename_i T
    split at dn
    · rename_i c0 c1 its n c2 lT
      exact ⟨T, _, its.toList, n, rfl, lT, rfl, relAll_ok dn⟩
    · cases dn
  · cases dn
/-! ### dicts of tuples -/
theorem flat_td {K : PySem.W.Frag} {H : Hp} : ∀ {ds : List PyData}, ds.all flatOk = true → IdL.TDs K H (ds.map flatV') ds
  | [], _ => .nil
  | d :: ds, h => by
    rw [List.all_cons] at h
    obtain ⟨h1, h2⟩ := ba h
    refine .cons ?_ (flat_td h2)
    cases d with
    | none => exact .non
    | bool b => exact .bl b
    | int i => exact .int i
    | str z => exact .str z
    | _ => cases h1
theorem datB_ok {K : PySem.W.Frag} {v : Value} {d : PyData} (h : datB K v d = true) : ∃ t, v = .ref t ∧ ∀ H, IdL.TD K H (.ref t) d := by
  unfold datB at h
  split at h
  · rename_i a ds
    obtain ⟨h1, h⟩ := ba h
    split at h
    · rename_i c c1 its n c2 lk
      obtain ⟨h3, h4⟩ := ba h
      obtain ⟨h5, h6⟩ := ba h4
      have hc : c = "tuple" := of_decide_eq_true h3
      subst hc
      exact ⟨a, rfl, fun H => .tup (.inr ⟨_, its, n, lk, rfl, rfl, of_decide_eq_true h5, relAll_ok h6⟩) (flat_td h1)⟩
    · cases h
  · cases h
theorem entAll_ok {K : PySem.W.Frag} : ∀ {es : List DictEntry} {l : List (Str × PyData)}, entAll K es l = true → ∀ z : Str, (es.any (·.refKey) = false) ∧ match l.lookup z with
    | some d => ∃ e t, es.find? (·.key.isStr z) = some e ∧ e.val = .ref t ∧ ∀ H, IdL.TD K H (.ref t) d
    | none => es.find? (·.key.isStr z) = none
  | [], [], _, z => ⟨rfl, rfl⟩
  | [], _ :: _, h, _ => by cases h
  | _ :: _, [], h, _ => by cases h
  | e :: es, (x, d) :: r, h, z => by
    obtain ⟨h1, h2⟩ := ba (show ((match e.key with
      | .str k _ => decide (k = x) && datB K e.val d
      | _ => false) && (!e.refKey && entAll K es r)) = true from h)
    obtain ⟨h2, h3⟩ := ba h2
    obtain ⟨i1, i2⟩ := entAll_ok h3 z
    split at h1
    · rename_i k t hk
      obtain ⟨h4, h5⟩ := ba h1
      have e1 : k = x := of_decide_eq_true h4
      subst e1
      refine ⟨by rw [List.any_cons, i1, Bool.or_false]; simpa using h2, ?_⟩
      rw [List.lookup_cons]
      by_cases hz : z = k
      · subst hz
        rw [beq_self_eq_true]
        obtain ⟨t, e2, e3⟩ := datB_ok h5
        refine ⟨e, t, ?_, e2, e3⟩
        rw [List.find?_cons_of_pos]
        rw [hk]
        show (z == z) = true
        exact beq_self_eq_true _
      · rw [beq_eq_false_iff_ne.mpr hz, List.find?_cons_of_neg]
        · exact i2
        · rw [hk]
          show ¬ (k == z) = true
          exact fun y => hz (eq_of_beq y).symm
    · cases h1
theorem entB_ok {K : PySem.W.Frag} {a : Addr} {l : List (Str × PyData)} (h : entB K a l = true) (z : Str) : ∃ r, PySem.W.nsIn K a z = some r ∧ match l.lookup z with
    | some d => ∃ t, r = some (.ref t) ∧ ∀ H, IdL.TD K H (.ref t) d
    | none => r = none := by
  unfold entB at h
  split at h
  · rename_i c0 c1 es n c2 lk
    obtain ⟨h1, h2⟩ := entAll_ok h z
    unfold PySem.W.nsIn
    rw [lk]
    cases e : l.lookup z with
    | none =>
      rw [e] at h2
      refine ⟨none, ?_, rfl⟩
      show (match es.toList.find? (·.key.isStr z) with
        | some e => some (some e.val)
        | none => if es.toList.any (·.refKey) then none else some none) = some none
      rw [h2, h1]; rfl
    | some d =>
      rw [e] at h2
      obtain ⟨en, t, h3, h4, h5⟩ := h2
      refine ⟨some (.ref t), ?_, t, rfl, h5⟩
      show (match es.toList.find? (·.key.isStr z) with
        | some e => some (some e.val)
        | none => if es.toList.any (·.refKey) then none else some none) = _
      rw [h3]
      show some (some en.val) = _
      rw [h4]
  · cases h
end Hd
namespace IdL
open PySem PySem.Spec PyProof.Rows L2 He Hd TL
theorem range_map {α : Type} {f g : Nat → α} {n : Nat} (h : (List.range n).map f = (List.range n).map g) : ∀ i, i < n → f i = g i := fun i hi => by
  have e : ((List.range n).map f)[i]? = ((List.range n).map g)[i]? := by rw [h]
  rw [List.getElem?_map, List.getElem?_map, List.getElem?_range hi] at e
  exact Option.some.inj e
theorem range_all {p : Nat → Bool} {n : Nat} (h : (List.range n).all p = true) : ∀ i, i < n → p i = true := fun i hi => List.all_eq_true.mp h i (List.mem_range.mpr hi)
theorem esAll_ok : ∀ {es : List DictEntry} {phr : List (Str × Str)}, esAll es phr = true → EsIs es phr
  | [], [], _ => .nil
  | [], _ :: _, h => by cases h
  | _ :: _, [], h => by cases h
  | e :: es, (x, y) :: r, h => by
    obtain ⟨h1, h2⟩ := ba (show ((match e.key, e.val with
      | .str k _, .str v _ => decide (k = x) && decide (v = y)
      | _, _ => false) && esAll es r) = true from h)
    split at h1
    · rename_i k t v u hk hv
      obtain ⟨h3, h4⟩ := ba h1
      have e1 : k = x := of_decide_eq_true h3
      have e2 : v = y := of_decide_eq_true h4
      subst e1 e2
      exact .cons hk hv (esAll_ok h2)
    · cases h1
theorem esB_ok {K : PySem.W.Frag} {w : World} {a : Addr} {phr : List (Str × Str)} {es : Array DictEntry} {n : Nat} (D : KDict K w a es n) (h : esB K a phr = true) : EsIs es.toList phr := by
  unfold esB at h
  rw [D.at_] at h
  exact esAll_ok h
end IdL
namespace IdL
open PySem PySem.Spec PyProof.Rows L2 He Hd TL
theorem form_BadKind : Er.Form (inClass (top 20) 0) ["kind"] where
  body := ⟨_, _, _, _, _, _, _, _, ⟨0, 0, 0, 0⟩, [(_, _, _, _)], rfl, rfl, rfl⟩
  bind := fun s us q kV doc pm ct cd an cc hl => match us, hl with | [_, _], _ => .of_eq rfl
  head := ⟨_, rfl, rfl⟩
  kind := rfl
  co := rfl
  gen := rfl
  nocell := by decide +kernel
  lsup := rfl
  lcls := rfl
  lloc := by decide +kernel
  dbg := by decide +kernel
  nd := by decide +kernel
theorem form_BadLine : Er.Form (inClass (top 21) 0) ["line"] where
  body := ⟨_, _, _, _, _, _, _, _, ⟨0, 0, 0, 0⟩, [(_, _, _, _)], rfl, rfl, rfl⟩
  bind := fun s us q kV doc pm ct cd an cc hl => match us, hl with | [_, _], _ => .of_eq rfl
  head := ⟨_, rfl, rfl⟩
  kind := rfl
  co := rfl
  gen := rfl
  nocell := by decide +kernel
  lsup := rfl
  lcls := rfl
  lloc := by decide +kernel
  dbg := by decide +kernel
  nd := by decide +kernel
theorem form_Refused : Er.Form (inClass (top 22) 0) ["line"] where
  body := ⟨_, _, _, _, _, _, _, _, ⟨0, 0, 0, 0⟩, [(_, _, _, _)], rfl, rfl, rfl⟩
  bind := fun s us q kV doc pm ct cd an cc hl => match us, hl with | [_, _], _ => .of_eq rfl
  head := ⟨_, rfl, rfl⟩
  kind := rfl
  co := rfl
  gen := rfl
  nocell := by decide +kernel
  lsup := rfl
  lcls := rfl
  lloc := by decide +kernel
  dbg := by decide +kernel
  nd := by decide +kernel
theorem form_BadSize : Er.Form (inClass (top 23) 0) ["size"] where
  body := ⟨_, _, _, _, _, _, _, _, ⟨0, 0, 0, 0⟩, [(_, _, _, _)], rfl, rfl, rfl⟩
  bind := fun s us q kV doc pm ct cd an cc hl => match us, hl with | [_, _], _ => .of_eq rfl
  head := ⟨_, rfl, rfl⟩
  kind := rfl
  co := rfl
  gen := rfl
  nocell := by decide +kernel
  lsup := rfl
  lcls := rfl
  lloc := by decide +kernel
  dbg := by decide +kernel
  nd := by decide +kernel
theorem form_BadCase : Er.Form (inClass (top 24) 0) ["case"] where
  body := ⟨_, _, _, _, _, _, _, _, ⟨0, 0, 0, 0⟩, [(_, _, _, _)], rfl, rfl, rfl⟩
  bind := fun s us q kV doc pm ct cd an cc hl => match us, hl with | [_, _], _ => .of_eq rfl
  head := ⟨_, rfl, rfl⟩
  kind := rfl
  co := rfl
  gen := rfl
  nocell := by decide +kernel
  lsup := rfl
  lcls := rfl
  lloc := by decide +kernel
  dbg := by decide +kernel
  nd := by decide +kernel
theorem form_BadSum : Er.Form (inClass (top 25) 0) ["text"] where
  body := ⟨_, _, _, _, _, _, _, _, ⟨0, 0, 0, 0⟩, [(_, _, _, _)], rfl, rfl, rfl⟩
  bind := fun s us q kV doc pm ct cd an cc hl => match us, hl with | [_, _], _ => .of_eq rfl
  head := ⟨_, rfl, rfl⟩
  kind := rfl
  co := rfl
  gen := rfl
  nocell := by decide +kernel
  lsup := rfl
  lcls := rfl
  lloc := by decide +kernel
  dbg := by decide +kernel
  nd := by decide +kernel
theorem form_TooMany : Er.Form (inClass (top 26) 0) ["what", "many", "most"] where
  body := ⟨_, _, _, _, _, _, _, _, ⟨0, 0, 0, 0⟩, [(_, _, _, _), (_, _, _, _), (_, _, _, _)], rfl, rfl, rfl⟩
  bind := fun s us q kV doc pm ct cd an cc hl => match us, hl with | [_, _, _, _], _ => .of_eq rfl
  head := ⟨_, rfl, rfl⟩
  kind := rfl
  co := rfl
  gen := rfl
  nocell := by decide +kernel
  lsup := rfl
  lcls := rfl
  lloc := by decide +kernel
  dbg := by decide +kernel
  nd := by decide +kernel
theorem allL {w : World} {K : PySem.W.Frag} {h : Heap} {mg : Str → Option Value} {fa : Addr} (X : K.In h) (G : h.Ns mainGlobals mg) (hfa : mg "law" = some (.ref fa)) (hx : exK K = true) (hv : fvK K = fwK) (ht : tabO tabL K = tabV tabL w) :
    ∃ fd : FuncData, (∀ (s : Shared) (v : Value), BindsTo s fd ⟨[v], []⟩ [("_law_script", v)]) ∧ ∀ base : Heap, K.In base → base.Ns mainGlobals mg → FnOk PR w K mg base CX0 10 fa fd ["_law_script"] (spLaw K) := by
  have ex : ∀ (i : Nat) {b : Bool}, (exL K)[i]? = some b → b = true := fun i b hb => List.all_eq_true.mp hx b (List.mem_of_getElem? hb)
  have x1 : comB K = true := ex 0 rfl
  have x2 := ex 1 rfl
  have x3 := ex 2 rfl
  have x4 := ex 3 rfl
  obtain ⟨v1, v2⟩ := List.append_inj hv (by rw [List.length_map, List.length_map])
  obtain ⟨v2, v3⟩ := List.append_inj v2 (by rw [List.length_map, List.length_map])
  have fo := range_map v1
  have co := range_map v2
  have fact : ∀ (i : Nat) {f : Fa}, faL[i]? = some f → f.ok K = true := fun i f hf => List.all_eq_true.mp x4 f (List.mem_of_getElem? hf)
  have meth : ∀ (i : Nat) {f f' : FnO}, ([fnO K (ma K (ga K "BookCode") "__init__"), fnO K (ma K (ga K "BookRules") "__init__"), fnO K (ma K (ga K "BookRules") "kept_rows"), fnO K (ma K (ga K "BookRules") "in_use"), fnO K (ma K (ga K "BookDesk") "__init__"), fnO K (ma K (ga K "BookPlay") "__init__"), fnO K (ma K (ga K "Owed") "__init__")] : List FnO)[i]? = some f → ([fnV "__init__" "BookCode.__init__" sInit [], fnV "__init__" "BookRules.__init__" sI [], fnV "kept_rows" "BookRules.kept_rows" sKr [], fnV "in_use" "BookRules.in_use" sIu [], fnV "__init__" "BookDesk.__init__" sBi [], fnV "__init__" "BookPlay.__init__" IdL.sPi [], fnV "__init__" "Owed.__init__" sOi []] : List FnO)[i]? = some f' → f = f' := fun i f f' h1 h2 => by
    rw [v3, h2] at h1
    exact (Option.some.inj h1).symm
  have FF : ∀ i, i < 70 → ∃ fd, Fun K (fnmOf i) (fnmOf i) (ftxOf i) (ga K (fnmOf i)) fd := fun i hi => fun_of (fo i hi) (ba (range_all x3 i hi)).1
  have g : ∀ i, i < 70 → mg (fnmOf i) = some (.ref (ga K (fnmOf i))) := fun i hi => PySem.W.mg_of X G (eqO_ok (ba (range_all x3 i hi)).2)
  have cf : ∀ k, k < 7 → Law.CF PR K (ga K (enmOf k)) (ma K (ga K (enmOf k)) "__init__") (ga K "HeldError") (enmOf k) (equOf k) (estOf k) (efsOf k) := fun k hk => err_of (range_all x2 k hk) x1 (co k hk) (by decide +kernel)
  obtain ⟨dLi, uLi'⟩ := FF 0 (by decide)
  have uLi : Fun K "split_lines" "split_lines" sLines (ga K "split_lines") dLi := uLi'
  have bLi := uLi.binds (ps := ["text"]) fun _ _ _ _ _ _ us hl => match us, hl with | [_], _ => rfl
  have gLi : mg "split_lines" = some (.ref (ga K "split_lines")) := g 0 (by decide)
  obtain ⟨dNu, uNu'⟩ := FF 1 (by decide)
  have uNu : Fun K "is_number" "is_number" sNum (ga K "is_number") dNu := uNu'
  have bNu := uNu.binds (ps := ["word"]) fun _ _ _ _ _ _ us hl => match us, hl with | [_], _ => rfl
  have gNu : mg "is_number" = some (.ref (ga K "is_number")) := g 1 (by decide)
  obtain ⟨dTe, uTe'⟩ := FF 2 (by decide)
  have uTe : Fun K "read_term" "read_term" sTerm (ga K "read_term") dTe := uTe'
  have bTe := uTe.binds (ps := ["word", "names"]) fun _ _ _ _ _ _ us hl => match us, hl with | [_, _], _ => rfl
  have gTe : mg "read_term" = some (.ref (ga K "read_term")) := g 2 (by decide)
  obtain ⟨dSu, uSu'⟩ := FF 3 (by decide)
  have uSu : Fun K "read_sum" "read_sum" sSum (ga K "read_sum") dSu := uSu'
  have bSu := uSu.binds (ps := ["words", "names"]) fun _ _ _ _ _ _ us hl => match us, hl with | [_, _], _ => rfl
  have gSu : mg "read_sum" = some (.ref (ga K "read_sum")) := g 3 (by decide)
  obtain ⟨dPa, uPa'⟩ := FF 4 (by decide)
  have uPa : Fun K "read_part" "read_part" sPart (ga K "read_part") dPa := uPa'
  have bPa := uPa.binds (ps := ["words", "names", "phrases"]) fun _ _ _ _ _ _ us hl => match us, hl with | [_, _, _], _ => rfl
  have gPa : mg "read_part" = some (.ref (ga K "read_part")) := g 4 (by decide)
  obtain ⟨dPs, uPs'⟩ := FF 5 (by decide)
  have uPs : Fun K "split_parts" "split_parts" sParts (ga K "split_parts") dPs := uPs'
  have bPs := uPs.binds (ps := ["words"]) fun _ _ _ _ _ _ us hl => match us, hl with | [_], _ => rfl
  have gPs : mg "split_parts" = some (.ref (ga K "split_parts")) := g 5 (by decide)
  obtain ⟨dTs, uTs'⟩ := FF 6 (by decide)
  have uTs : Fun K "read_test" "read_test" sTest (ga K "read_test") dTs := uTs'
  have bTs := uTs.binds (ps := ["words", "names", "phrases"]) fun _ _ _ _ _ _ us hl => match us, hl with | [_, _, _], _ => rfl
  have gTs : mg "read_test" = some (.ref (ga K "read_test")) := g 6 (by decide)
  obtain ⟨dSp, uSp'⟩ := FF 7 (by decide)
  have uSp : Fun K "is_spaced" "is_spaced" sSpaced (ga K "is_spaced") dSp := uSp'
  have bSp := uSp.binds (ps := ["words"]) fun _ _ _ _ _ _ us hl => match us, hl with | [_], _ => rfl
  have gSp : mg "is_spaced" = some (.ref (ga K "is_spaced")) := g 7 (by decide)
  obtain ⟨dCl, uCl'⟩ := FF 8 (by decide)
  have uCl : Fun K "close_block" "close_block" sClose (ga K "close_block") dCl := uCl'
  have bCl := uCl.binds (ps := ["form", "line", "stack", "jumps"]) fun _ _ _ _ _ _ us hl => match us, hl with | [_, _, _, _], _ => rfl
  have gCl : mg "close_block" = some (.ref (ga K "close_block")) := g 8 (by decide)
  obtain ⟨dFo, uFo'⟩ := FF 9 (by decide)
  have uFo : Fun K "read_forms" "read_forms" sForms (ga K "read_forms") dFo := uFo'
  have bFo := uFo.binds (ps := ["rows", "read_line"]) fun _ _ _ _ _ _ us hl => match us, hl with | [_, _], _ => rfl
  have gFo : mg "read_forms" = some (.ref (ga K "read_forms")) := g 9 (by decide)
  obtain ⟨dCo, uCo'⟩ := FF 10 (by decide)
  have uCo : Fun K "read_code" "read_code" sCode (ga K "read_code") dCo := uCo'
  have bCo := uCo.binds (ps := ["text", "read_line", "most_lines", "most_ifs"]) fun _ _ _ _ _ _ us hl => match us, hl with | [_, _, _, _], _ => rfl
  have gCo : mg "read_code" = some (.ref (ga K "read_code")) := g 10 (by decide)
  obtain ⟨dSt, uSt'⟩ := FF 11 (by decide)
  have uSt : Fun K "step_on" "step_on" sStep (ga K "step_on") dSt := uSt'
  have bSt := uSt.binds (ps := ["forms", "jumps", "line"]) fun _ _ _ _ _ _ us hl => match us, hl with | [_, _, _], _ => rfl
  have gSt : mg "step_on" = some (.ref (ga K "step_on")) := g 11 (by decide)
  obtain ⟨dWy, uWy'⟩ := FF 12 (by decide)
  have uWy : Fun K "find_ways" "find_ways" sWays (ga K "find_ways") dWy := uWy'
  have bWy := uWy.binds (ps := ["forms", "jumps"]) fun _ _ _ _ _ _ us hl => match us, hl with | [_, _], _ => rfl
  have gWy : mg "find_ways" = some (.ref (ga K "find_ways")) := g 12 (by decide)
  obtain ⟨dSl, uSl'⟩ := FF 13 (by decide)
  have uSl : Fun K "read_sealed" "read_sealed" sSeal (ga K "read_sealed") dSl := uSl'
  have bSl := uSl.binds (ps := ["target", "words"]) fun _ _ _ _ _ _ us hl => match us, hl with | [_, _], _ => rfl
  have gSl : mg "read_sealed" = some (.ref (ga K "read_sealed")) := g 13 (by decide)
  obtain ⟨dSe, uSe'⟩ := FF 14 (by decide)
  have uSe : Fun K "read_setting" "read_setting" sSett (ga K "read_setting") dSe := uSe'
  have bSe := uSe.binds (ps := ["target", "words"]) fun _ _ _ _ _ _ us hl => match us, hl with | [_, _], _ => rfl
  have gSe : mg "read_setting" = some (.ref (ga K "read_setting")) := g 14 (by decide)
  obtain ⟨dMv, uMv'⟩ := FF 15 (by decide)
  have uMv : Fun K "read_move" "read_move" sMove (ga K "read_move") dMv := uMv'
  have bMv := uMv.binds (ps := ["word", "words"]) fun _ _ _ _ _ _ us hl => match us, hl with | [_, _], _ => rfl
  have gMv : mg "read_move" = some (.ref (ga K "read_move")) := g 15 (by decide)
  obtain ⟨dBl, uBl'⟩ := FF 16 (by decide)
  have uBl : Fun K "read_book_line" "read_book_line" sBl (ga K "read_book_line") dBl := uBl'
  have bBl := uBl.binds (ps := ["words"]) fun _ _ _ _ _ _ us hl => match us, hl with | [_], _ => rfl
  have gBl : mg "read_book_line" = some (.ref (ga K "read_book_line")) := g 16 (by decide)
  obtain ⟨dFf, uFf'⟩ := FF 17 (by decide)
  have uFf : Fun K "is_for" "is_for" sFor (ga K "is_for") dFf := uFf'
  have bFf := uFf.binds (ps := ["kind", "form"]) fun _ _ _ _ _ _ us hl => match us, hl with | [_, _], _ => rfl
  have gFf : mg "is_for" = some (.ref (ga K "is_for")) := g 17 (by decide)
  obtain ⟨dMo, uMo'⟩ := FF 18 (by decide)
  have uMo : Fun K "most_of" "most_of" sMo (ga K "most_of") dMo := uMo'
  have bMo := uMo.binds (ps := ["name"]) fun _ _ _ _ _ _ us hl => match us, hl with | [_], _ => rfl
  have gMo : mg "most_of" = some (.ref (ga K "most_of")) := g 18 (by decide)
  obtain ⟨dCn, uCn'⟩ := FF 19 (by decide)
  have uCn : Fun K "counted_names" "counted_names" sCn (ga K "counted_names") dCn := uCn'
  have bCn := uCn.binds (ps := ["form"]) fun _ _ _ _ _ _ us hl => match us, hl with | [_], _ => rfl
  have gCn : mg "counted_names" = some (.ref (ga K "counted_names")) := g 19 (by decide)
  obtain ⟨dWb, uWb'⟩ := FF 20 (by decide)
  have uWb : Fun K "way_break" "way_break" sWb (ga K "way_break") dWb := uWb'
  have bWb := uWb.binds (ps := ["forms", "way"]) fun _ _ _ _ _ _ us hl => match us, hl with | [_, _], _ => rfl
  have gWb : mg "way_break" = some (.ref (ga K "way_break")) := g 20 (by decide)
  obtain ⟨dLe, uLe'⟩ := FF 21 (by decide)
  have uLe : Fun K "least_refused" "least_refused" sLeast (ga K "least_refused") dLe := uLe'
  have bLe := uLe.binds (ps := ["kind", "forms", "jumps"]) fun _ _ _ _ _ _ us hl => match us, hl with | [_, _, _], _ => rfl
  have gLe : mg "least_refused" = some (.ref (ga K "least_refused")) := g 21 (by decide)
  obtain ⟨dKe, uKe'⟩ := FF 22 (by decide)
  have uKe : Fun K "read_keep" "read_keep" sKeep (ga K "read_keep") dKe := uKe'
  have bKe := uKe.binds (ps := ["text"]) fun _ _ _ _ _ _ us hl => match us, hl with | [_], _ => rfl
  have gKe : mg "read_keep" = some (.ref (ga K "read_keep")) := g 22 (by decide)
  obtain ⟨dWh, uWh'⟩ := FF 23 (by decide)
  have uWh : Fun K "is_whole" "is_whole" sWhole (ga K "is_whole") dWh := uWh'
  have bWh := uWh.binds (ps := ["value"]) fun _ _ _ _ _ _ us hl => match us, hl with | [_], _ => rfl
  have gWh : mg "is_whole" = some (.ref (ga K "is_whole")) := g 23 (by decide)
  obtain ⟨dFr, uFr'⟩ := FF 24 (by decide)
  have uFr : Fun K "is_from" "is_from" sFrom (ga K "is_from") dFr := uFr'
  have bFr := uFr.binds (ps := ["value", "least"]) fun _ _ _ _ _ _ us hl => match us, hl with | [_, _], _ => rfl
  have gFr : mg "is_from" = some (.ref (ga K "is_from")) := g 24 (by decide)
  obtain ⟨dBe, uBe'⟩ := FF 25 (by decide)
  have uBe : Fun K "is_between" "is_between" sBetw (ga K "is_between") dBe := uBe'
  have bBe := uBe.binds (ps := ["value", "least", "most"]) fun _ _ _ _ _ _ us hl => match us, hl with | [_, _, _], _ => rfl
  have gBe : mg "is_between" = some (.ref (ga K "is_between")) := g 25 (by decide)
  obtain ⟨dCk, uCk'⟩ := FF 26 (by decide)
  have uCk : Fun K "check_size" "check_size" sCk (ga K "check_size") dCk := uCk'
  have bCk := uCk.binds (ps := ["size"]) fun _ _ _ _ _ _ us hl => match us, hl with | [_], _ => rfl
  have gCk : mg "check_size" = some (.ref (ga K "check_size")) := g 26 (by decide)
  obtain ⟨dAl, uAl'⟩ := FF 27 (by decide)
  have uAl : Fun K "are_lengths" "are_lengths" sAl (ga K "are_lengths") dAl := uAl'
  have bAl := uAl.binds (ps := ["value"]) fun _ _ _ _ _ _ us hl => match us, hl with | [_], _ => rfl
  have gAl : mg "are_lengths" = some (.ref (ga K "are_lengths")) := g 27 (by decide)
  obtain ⟨dBc, uBc'⟩ := FF 28 (by decide)
  have uBc : Fun K "is_book_case" "is_book_case" sBc (ga K "is_book_case") dBc := uBc'
  have bBc := uBc.binds (ps := ["rules", "kind", "case"]) fun _ _ _ _ _ _ us hl => match us, hl with | [_, _, _], _ => rfl
  have gBc : mg "is_book_case" = some (.ref (ga K "is_book_case")) := g 28 (by decide)
  obtain ⟨dFi, uFi'⟩ := FF 29 (by decide)
  have uFi : Fun K "fields_of" "fields_of" sFo (ga K "fields_of") dFi := uFi'
  have bFi := uFi.binds (ps := ["case"]) fun _ _ _ _ _ _ us hl => match us, hl with | [_], _ => rfl
  have gFi : mg "fields_of" = some (.ref (ga K "fields_of")) := g 29 (by decide)
  obtain ⟨dPb, uPb'⟩ := FF 30 (by decide)
  have uPb : Fun K "places_back" "places_back" sPb (ga K "places_back") dPb := uPb'
  have bPb := uPb.binds (ps := ["size", "place", "many"]) fun _ _ _ _ _ _ us hl => match us, hl with | [_, _, _], _ => rfl
  have gPb : mg "places_back" = some (.ref (ga K "places_back")) := g 30 (by decide)
  obtain ⟨dPo, uPo'⟩ := FF 31 (by decide)
  have uPo : Fun K "places_on" "places_on" sPo (ga K "places_on") dPo := uPo'
  have bPo := uPo.binds (ps := ["size", "place", "many"]) fun _ _ _ _ _ _ us hl => match us, hl with | [_, _, _], _ => rfl
  have gPo : mg "places_on" = some (.ref (ga K "places_on")) := g 31 (by decide)
  obtain ⟨dSo, uSo'⟩ := FF 32 (by decide)
  have uSo : Fun K "seals_of" "seals_of" sSo (ga K "seals_of") dSo := uSo'
  have bSo := uSo.binds (ps := ["case"]) fun _ _ _ _ _ _ us hl => match us, hl with | [_], _ => rfl
  have gSo : mg "seals_of" = some (.ref (ga K "seals_of")) := g 32 (by decide)
  obtain ⟨dOn, uOn'⟩ := FF 33 (by decide)
  have uOn : Fun K "owed_by_note" "owed_by_note" sOn (ga K "owed_by_note") dOn := uOn'
  have bOn := uOn.binds (ps := ["case", "keep"]) fun _ _ _ _ _ _ us hl => match us, hl with | [_, _], _ => rfl
  have gOn : mg "owed_by_note" = some (.ref (ga K "owed_by_note")) := g 33 (by decide)
  obtain ⟨dOf, uOf'⟩ := FF 34 (by decide)
  have uOf : Fun K "owed_by_fail" "owed_by_fail" sOf (ga K "owed_by_fail") dOf := uOf'
  have bOf := uOf.binds (ps := ["case"]) fun _ _ _ _ _ _ us hl => match us, hl with | [_], _ => rfl
  have gOf : mg "owed_by_fail" = some (.ref (ga K "owed_by_fail")) := g 34 (by decide)
  obtain ⟨dOu, uOu'⟩ := FF 35 (by decide)
  have uOu : Fun K "owed_by_undo" "owed_by_undo" sOu (ga K "owed_by_undo") dOu := uOu'
  have bOu := uOu.binds (ps := ["case"]) fun _ _ _ _ _ _ us hl => match us, hl with | [_], _ => rfl
  have gOu : mg "owed_by_undo" = some (.ref (ga K "owed_by_undo")) := g 35 (by decide)
  obtain ⟨dOr, uOr'⟩ := FF 36 (by decide)
  have uOr : Fun K "owed_by_redo" "owed_by_redo" sOr (ga K "owed_by_redo") dOr := uOr'
  have bOr := uOr.binds (ps := ["case"]) fun _ _ _ _ _ _ us hl => match us, hl with | [_], _ => rfl
  have gOr : mg "owed_by_redo" = some (.ref (ga K "owed_by_redo")) := g 36 (by decide)
  obtain ⟨dOb, uOb'⟩ := FF 37 (by decide)
  have uOb : Fun K "owed_by" "owed_by" sOb (ga K "owed_by") dOb := uOb'
  have bOb := uOb.binds (ps := ["kind", "case", "keep"]) fun _ _ _ _ _ _ us hl => match us, hl with | [_, _, _], _ => rfl
  have gOb : mg "owed_by" = some (.ref (ga K "owed_by")) := g 37 (by decide)
  obtain ⟨dTf, uTf'⟩ := FF 38 (by decide)
  have uTf : Fun K "told_fields_of" "told_fields_of" sTf (ga K "told_fields_of") dTf := uTf'
  have bTf := uTf.binds (ps := ["desk"]) fun _ _ _ _ _ _ us hl => match us, hl with | [_], _ => rfl
  have gTf : mg "told_fields_of" = some (.ref (ga K "told_fields_of")) := g 38 (by decide)
  obtain ⟨dIp, uIp'⟩ := FF 39 (by decide)
  have uIp : Fun K "is_place" "is_place" sIp (ga K "is_place") dIp := uIp'
  have bIp := uIp.binds (ps := ["desk", "number"]) fun _ _ _ _ _ _ us hl => match us, hl with | [_, _], _ => rfl
  have gIp : mg "is_place" = some (.ref (ga K "is_place")) := g 39 (by decide)
  obtain ⟨dTv, uTv'⟩ := FF 40 (by decide)
  have uTv : Fun K "term_value" "term_value" sTv (ga K "term_value") dTv := uTv'
  have bTv := uTv.binds (ps := ["desk", "term"]) fun _ _ _ _ _ _ us hl => match us, hl with | [_, _], _ => rfl
  have gTv : mg "term_value" = some (.ref (ga K "term_value")) := g 40 (by decide)
  obtain ⟨dSv, uSv'⟩ := FF 41 (by decide)
  have uSv : Fun K "sum_value" "sum_value" sSv (ga K "sum_value") dSv := uSv'
  have bSv := uSv.binds (ps := ["desk", "terms"]) fun _ _ _ _ _ _ us hl => match us, hl with | [_, _], _ => rfl
  have gSv : mg "sum_value" = some (.ref (ga K "sum_value")) := g 41 (by decide)
  obtain ⟨dCm, uCm'⟩ := FF 42 (by decide)
  have uCm : Fun K "compare" "compare" sCm (ga K "compare") dCm := uCm'
  have bCm := uCm.binds (ps := ["left", "sign", "right"]) fun _ _ _ _ _ _ us hl => match us, hl with | [_, _, _], _ => rfl
  have gCm : mg "compare" = some (.ref (ga K "compare")) := g 42 (by decide)
  obtain ⟨dTh, uTh'⟩ := FF 43 (by decide)
  have uTh : Fun K "test_holds" "test_holds" sTh (ga K "test_holds") dTh := uTh'
  have bTh := uTh.binds (ps := ["desk", "parts"]) fun _ _ _ _ _ _ us hl => match us, hl with | [_, _], _ => rfl
  have gTh : mg "test_holds" = some (.ref (ga K "test_holds")) := g 43 (by decide)
  obtain ⟨dSn, uSn'⟩ := FF 44 (by decide)
  have uSn : Fun K "set_name" "set_name" sSn (ga K "set_name") dSn := uSn'
  have bSn := uSn.binds (ps := ["desk", "name", "number"]) fun _ _ _ _ _ _ us hl => match us, hl with | [_, _, _], _ => rfl
  have gSn : mg "set_name" = some (.ref (ga K "set_name")) := g 44 (by decide)
  obtain ⟨dP1, uP1'⟩ := FF 45 (by decide)
  have uP1 : Fun K "play_set" "play_set" IdL.sPs (ga K "play_set") dP1 := uP1'
  have bP1 := uP1.binds (ps := ["desk", "form"]) fun _ _ _ _ _ _ us hl => match us, hl with | [_, _], _ => rfl
  have gP1 : mg "play_set" = some (.ref (ga K "play_set")) := g 45 (by decide)
  obtain ⟨dP2, uP2'⟩ := FF 46 (by decide)
  have uP2 : Fun K "play_wrap" "play_wrap" sPw (ga K "play_wrap") dP2 := uP2'
  have bP2 := uP2.binds (ps := ["desk", "form"]) fun _ _ _ _ _ _ us hl => match us, hl with | [_, _], _ => rfl
  have gP2 : mg "play_wrap" = some (.ref (ga K "play_wrap")) := g 46 (by decide)
  obtain ⟨dP3, uP3'⟩ := FF 47 (by decide)
  have uP3 : Fun K "play_sealed" "play_sealed" sPl (ga K "play_sealed") dP3 := uP3'
  have bP3 := uP3.binds (ps := ["desk", "form"]) fun _ _ _ _ _ _ us hl => match us, hl with | [_, _], _ => rfl
  have gP3 : mg "play_sealed" = some (.ref (ga K "play_sealed")) := g 47 (by decide)
  obtain ⟨dP4, uP4'⟩ := FF 48 (by decide)
  have uP4 : Fun K "play_write" "play_write" sPr (ga K "play_write") dP4 := uP4'
  have bP4 := uP4.binds (ps := ["desk", "form"]) fun _ _ _ _ _ _ us hl => match us, hl with | [_, _], _ => rfl
  have gP4 : mg "play_write" = some (.ref (ga K "play_write")) := g 48 (by decide)
  obtain ⟨dTo, uTo'⟩ := FF 49 (by decide)
  have uTo : Fun K "times_of" "times_of" sTo (ga K "times_of") dTo := uTo'
  have bTo := uTo.binds (ps := ["desk", "form"]) fun _ _ _ _ _ _ us hl => match us, hl with | [_, _], _ => rfl
  have gTo : mg "times_of" = some (.ref (ga K "times_of")) := g 49 (by decide)
  obtain ⟨dP5, uP5'⟩ := FF 50 (by decide)
  have uP5 : Fun K "play_back" "play_back" sPk (ga K "play_back") dP5 := uP5'
  have bP5 := uP5.binds (ps := ["desk", "form"]) fun _ _ _ _ _ _ us hl => match us, hl with | [_, _], _ => rfl
  have gP5 : mg "play_back" = some (.ref (ga K "play_back")) := g 50 (by decide)
  obtain ⟨dP6, uP6'⟩ := FF 51 (by decide)
  have uP6 : Fun K "play_again" "play_again" IdL.sPa (ga K "play_again") dP6 := uP6'
  have bP6 := uP6.binds (ps := ["desk", "form"]) fun _ _ _ _ _ _ us hl => match us, hl with | [_, _], _ => rfl
  have gP6 : mg "play_again" = some (.ref (ga K "play_again")) := g 51 (by decide)
  obtain ⟨dPf, uPf'⟩ := FF 52 (by decide)
  have uPf : Fun K "play_forms" "play_forms" sPf (ga K "play_forms") dPf := uPf'
  have bPf := uPf.binds (ps := ["code", "desk"]) fun _ _ _ _ _ _ us hl => match us, hl with | [_, _], _ => rfl
  have gPf : mg "play_forms" = some (.ref (ga K "play_forms")) := g 52 (by decide)
  obtain ⟨dBd, uBd'⟩ := FF 53 (by decide)
  have uBd : Fun K "breaks_done" "breaks_done" sBd (ga K "breaks_done") dBd := uBd'
  have bBd := uBd.binds (ps := ["desk", "owed"]) fun _ _ _ _ _ _ us hl => match us, hl with | [_, _], _ => rfl
  have gBd : mg "breaks_done" = some (.ref (ga K "breaks_done")) := g 53 (by decide)
  obtain ⟨dBp, uBp'⟩ := FF 54 (by decide)
  have uBp : Fun K "broken_promises" "broken_promises" sBp (ga K "broken_promises") dBp := uBp'
  have bBp := uBp.binds (ps := ["desk", "owed", "ended"]) fun _ _ _ _ _ _ us hl => match us, hl with | [_, _, _], _ => rfl
  have gBp : mg "broken_promises" = some (.ref (ga K "broken_promises")) := g 54 (by decide)
  obtain ⟨dBk, uBk'⟩ := FF 55 (by decide)
  have uBk : Fun K "play_book" "play_book" sPbk (ga K "play_book") dBk := uBk'
  have bBk := uBk.binds (ps := ["code", "case"]) fun _ _ _ _ _ _ us hl => match us, hl with | [_, _], _ => rfl
  have gBk : mg "play_book" = some (.ref (ga K "play_book")) := g 55 (by decide)
  obtain ⟨dlP, ulP'⟩ := FF 56 (by decide)
  have ulP : Fun K "_law_begun_pen" "_law_begun_pen" sPen (ga K "_law_begun_pen") dlP := ulP'
  have blP := ulP.binds (ps := ["_law_script"]) fun _ _ _ _ _ _ us hl => match us, hl with | [_], _ => rfl
  have glP : mg "_law_begun_pen" = some (.ref (ga K "_law_begun_pen")) := g 56 (by decide)
  obtain ⟨dlD, ulD'⟩ := FF 57 (by decide)
  have ulD : Fun K "_law_draw" "_law_draw" sDraw (ga K "_law_draw") dlD := ulD'
  have blD := ulD.binds (ps := ["_law_pen", "_law_span"]) fun _ _ _ _ _ _ us hl => match us, hl with | [_, _], _ => rfl
  have glD : mg "_law_draw" = some (.ref (ga K "_law_draw")) := g 57 (by decide)
  obtain ⟨dlE, ulE'⟩ := FF 58 (by decide)
  have ulE : Fun K "_law_terms" "_law_terms" sTe (ga K "_law_terms") dlE := ulE'
  have blE := ulE.binds (ps := ["_law_text_here"]) fun _ _ _ _ _ _ us hl => match us, hl with | [_], _ => rfl
  have glE : mg "_law_terms" = some (.ref (ga K "_law_terms")) := g 58 (by decide)
  obtain ⟨dlX, ulX'⟩ := FF 59 (by decide)
  have ulX : Fun K "_law_sum_text" "_law_sum_text" sTx (ga K "_law_sum_text") dlX := ulX'
  have blX := ulX.binds (ps := ["_law_terms_here"]) fun _ _ _ _ _ _ us hl => match us, hl with | [_], _ => rfl
  have glX : mg "_law_sum_text" = some (.ref (ga K "_law_sum_text")) := g 59 (by decide)
  obtain ⟨dlL, ulL'⟩ := FF 60 (by decide)
  have ulL : Fun K "_law_rows_lines" "_law_rows_lines" sRL (ga K "_law_rows_lines") dlL := ulL'
  have blL := ulL.binds (ps := ["_law_rows"]) fun _ _ _ _ _ _ us hl => match us, hl with | [_], _ => rfl
  have glL : mg "_law_rows_lines" = some (.ref (ga K "_law_rows_lines")) := g 60 (by decide)
  obtain ⟨dlT, ulT'⟩ := FF 61 (by decide)
  have ulT : Fun K "_law_text" "_law_text" sTxt (ga K "_law_text") dlT := ulT'
  have blT := ulT.binds (ps := ["_law_rows"]) fun _ _ _ _ _ _ us hl => match us, hl with | [_], _ => rfl
  have glT : mg "_law_text" = some (.ref (ga K "_law_text")) := g 61 (by decide)
  obtain ⟨dlS, ulS'⟩ := FF 62 (by decide)
  have ulS : Fun K "_law_set" "_law_set" IdL.sSet (ga K "_law_set") dlS := ulS'
  have blS := ulS.binds (ps := ["_law_name", "_law_text_here"]) fun _ _ _ _ _ _ us hl => match us, hl with | [_, _], _ => rfl
  have glS : mg "_law_set" = some (.ref (ga K "_law_set")) := g 62 (by decide)
  obtain ⟨dlV, ulV'⟩ := FF 63 (by decide)
  have ulV : Fun K "_law_wrap" "_law_wrap" sWrap (ga K "_law_wrap") dlV := ulV'
  have blV := ulV.binds (ps := ["_law_name", "_law_text_here"]) fun _ _ _ _ _ _ us hl => match us, hl with | [_, _], _ => rfl
  have glV : mg "_law_wrap" = some (.ref (ga K "_law_wrap")) := g 63 (by decide)
  obtain ⟨dlI, ulI'⟩ := FF 64 (by decide)
  have ulI : Fun K "_law_if" "_law_if" sIf (ga K "_law_if") dlI := ulI'
  have blI := ulI.binds (ps := ["_law_one", "_law_sign", "_law_other", "_law_rows"]) fun _ _ _ _ _ _ us hl => match us, hl with | [_, _, _, _], _ => rfl
  have glI : mg "_law_if" = some (.ref (ga K "_law_if")) := g 64 (by decide)
  obtain ⟨dlR, ulR'⟩ := FF 65 (by decide)
  have ulR : Fun K "_law_right" "_law_right" sRight (ga K "_law_right") dlR := ulR'
  have blR := ulR.binds (ps := ["_law_kind"]) fun _ _ _ _ _ _ us hl => match us, hl with | [_], _ => rfl
  have glR : mg "_law_right" = some (.ref (ga K "_law_right")) := g 65 (by decide)
  obtain ⟨dlH, ulH'⟩ := FF 66 (by decide)
  have ulH : Fun K "_law_hand_rows" "_law_hand_rows" sHand (ga K "_law_hand_rows") dlH := ulH'
  have blH := ulH.binds (ps := []) fun _ _ _ _ _ _ us hl => match us, hl with | [], _ => rfl
  have glH : mg "_law_hand_rows" = some (.ref (ga K "_law_hand_rows")) := g 66 (by decide)
  obtain ⟨dlF, ulF'⟩ := FF 67 (by decide)
  have ulF : Fun K "_law_far_rows" "_law_far_rows" sFar (ga K "_law_far_rows") dlF := ulF'
  have blF := ulF.binds (ps := []) fun _ _ _ _ _ _ us hl => match us, hl with | [], _ => rfl
  have glF : mg "_law_far_rows" = some (.ref (ga K "_law_far_rows")) := g 67 (by decide)
  obtain ⟨dlO, ulO'⟩ := FF 68 (by decide)
  have ulO : Fun K "_law_turned" "_law_turned" sTurn (ga K "_law_turned") dlO := ulO'
  have blO := ulO.binds (ps := ["_law_case", "_law_by"]) fun _ _ _ _ _ _ us hl => match us, hl with | [_, _], _ => rfl
  have glO : mg "_law_turned" = some (.ref (ga K "_law_turned")) := g 68 (by decide)
  obtain ⟨dlW, ulW'⟩ := FF 69 (by decide)
  have ulW : Fun K "law" "law" sLaw (ga K "law") dlW := ulW'
  have blW := ulW.binds (ps := ["_law_script"]) fun _ _ _ _ _ _ us hl => match us, hl with | [_], _ => rfl
  have glW : mg "law" = some (.ref (ga K "law")) := g 69 (by decide)
  have f_len : mg "len" = none := free_ok X G (fact 0 rfl)
  have f_int : mg "int" = none := free_ok X G (fact 1 rfl)
  have f_list : mg "list" = none := free_ok X G (fact 2 rfl)
  have f_tuple : mg "tuple" = none := free_ok X G (fact 3 rfl)
  have f_enumerate : mg "enumerate" = none := free_ok X G (fact 4 rfl)
  have f_isinstance : mg "isinstance" = none := free_ok X G (fact 5 rfl)
  have f_dict : mg "dict" = none := free_ok X G (fact 6 rfl)
  have f_min : mg "min" = none := free_ok X G (fact 7 rfl)
  have f_super : mg "super" = none := free_ok X G (fact 8 rfl)
  have f_range : mg "range" = none := free_ok X G (fact 9 rfl)
  have f_bool : mg "bool" = none := free_ok X G (fact 10 rfl)
  have f_sum : mg "sum" = none := free_ok X G (fact 11 rfl)
  have f_str : mg "str" = none := free_ok X G (fact 12 rfl)
  have f_abs : mg "abs" = none := free_ok X G (fact 13 rfl)
  have f_all : mg "all" = none := free_ok X G (fact 14 rfl)
  have f_zip : mg "zip" = none := free_ok X G (fact 15 rfl)
  have i_MOST_FIGURES : ∃ t, mg "MOST_FIGURES" = some (.int 30 t) := int_ok X G (fact 16 rfl)
  have i_MOST_TERMS : ∃ t, mg "MOST_TERMS" = some (.int 4 t) := int_ok X G (fact 17 rfl)
  have i_MOST_PARTS : ∃ t, mg "MOST_PARTS" = some (.int 4 t) := int_ok X G (fact 18 rfl)
  have i_MOST_SETTINGS : ∃ t, mg "MOST_SETTINGS" = some (.int 2 t) := int_ok X G (fact 19 rfl)
  have i_MOST_LINES : ∃ t, mg "MOST_LINES" = some (.int 30 t) := int_ok X G (fact 20 rfl)
  have i_MOST_IFS : ∃ t, mg "MOST_IFS" = some (.int 6 t) := int_ok X G (fact 21 rfl)
  have a_ENDING : mg "ENDING" = some (.ref (ga K "ENDING")) := glo_ok X G (fact 22 rfl)
  have a_FIELDS : mg "FIELDS" = some (.ref (ga K "FIELDS")) := glo_ok X G (fact 23 rfl)
  have a_REGISTERS : mg "REGISTERS" = some (.ref (ga K "REGISTERS")) := glo_ok X G (fact 24 rfl)
  have a_NAMES : mg "NAMES" = some (.ref (ga K "NAMES")) := glo_ok X G (fact 25 rfl)
  have a_PLACES : mg "PLACES" = some (.ref (ga K "PLACES")) := glo_ok X G (fact 26 rfl)
  have a_WORDS : mg "WORDS" = some (.ref (ga K "WORDS")) := glo_ok X G (fact 27 rfl)
  have a_KINDS : mg "KINDS" = some (.ref (ga K "KINDS")) := glo_ok X G (fact 28 rfl)
  have a_KINDS_OF_WORDS : mg "KINDS_OF_WORDS" = some (.ref (ga K "KINDS_OF_WORDS")) := glo_ok X G (fact 29 rfl)
  have a_STEPS : mg "STEPS" = some (.ref (ga K "STEPS")) := glo_ok X G (fact 30 rfl)
  have a_BookCode : mg "BookCode" = some (.ref (ga K "BookCode")) := glo_ok X G (fact 31 rfl)
  have a_BookRules : mg "BookRules" = some (.ref (ga K "BookRules")) := glo_ok X G (fact 32 rfl)
  have a_BookDesk : mg "BookDesk" = some (.ref (ga K "BookDesk")) := glo_ok X G (fact 33 rfl)
  have a_BookPlay : mg "BookPlay" = some (.ref (ga K "BookPlay")) := glo_ok X G (fact 34 rfl)
  have a_Owed : mg "Owed" = some (.ref (ga K "Owed")) := glo_ok X G (fact 35 rfl)
  have a_HeldError : mg "HeldError" = some (.ref (ga K "HeldError")) := glo_ok X G (fact 36 rfl)
  have tK : ∀ t ∈ tabL, ∃ es n, KDict K w (ga K t.1) es n := fun t h => tab_ok ht h
  obtain ⟨es_STEPS, n_STEPS, D_STEPS⟩ := tK ("STEPS", ["set", "wrap", "sealed", "write", "back", "again"]) (List.mem_of_getElem? (i := 0) rfl)
  obtain ⟨es_KINDS_OF_WORDS, n_KINDS_OF_WORDS, D_KINDS_OF_WORDS⟩ := tK ("KINDS_OF_WORDS", ["write", "sealed", "back", "again"]) (List.mem_of_getElem? (i := 1) rfl)
  have t_ENDING : KTup K (ga K "ENDING") (endL.map V.str) := tupAt_ok (ex 4 rfl)
  have t_FIELDS : KTup K (ga K "FIELDS") (fieldsB.map V.str) := tupAt_ok (ex 5 rfl)
  have t_REGISTERS : KTup K (ga K "REGISTERS") (regsB.map V.str) := tupAt_ok (ex 6 rfl)
  have t_NAMES : KTup K (ga K "NAMES") (namesB.map V.str) := tupAt_ok (ex 7 rfl)
  have t_PLACES : KTup K (ga K "PLACES") (placesB.map V.str) := tupAt_ok (ex 8 rfl)
  have t_WORDS : KTup K (ga K "WORDS") (wordsB.map V.str) := tupAt_ok (ex 9 rfl)
  have t_KINDS : KTup K (ga K "KINDS") (kindsB.map V.str) := tupAt_ok (ex 10 rfl)
  have e_KINDS_OF_WORDS := entB_ok (l := kwD) (a := ga K "KINDS_OF_WORDS") (K := K) (ex 11 rfl)
  have x_0 := ex 19 rfl
  have x_1 := ex 20 rfl
  have x_2 := ex 21 rfl
  have x_3 := ex 22 rfl
  have x_4 := ex 23 rfl
  have x_5 := ex 24 rfl
  have E_BadKind : BErr PR K mg "BadKind" "BadKind.__init__" stKind ["kind"] (ga K "BadKind") (ma K (ga K "BadKind") "__init__") := ⟨(cf 0 (by decide)).T, form_BadKind, PySem.W.mg_of X G (cf 0 (by decide)).ns⟩
  have E_BadLine : BErr PR K mg "BadLine" "BadLine.__init__" stLine ["line"] (ga K "BadLine") (ma K (ga K "BadLine") "__init__") := ⟨(cf 1 (by decide)).T, form_BadLine, PySem.W.mg_of X G (cf 1 (by decide)).ns⟩
  have E_Refused : BErr PR K mg "Refused" "Refused.__init__" stRef ["line"] (ga K "Refused") (ma K (ga K "Refused") "__init__") := ⟨(cf 2 (by decide)).T, form_Refused, PySem.W.mg_of X G (cf 2 (by decide)).ns⟩
  have E_BadSize : BErr PR K mg "BadSize" "BadSize.__init__" (inClass (top 23) 0) ["size"] (ga K "BadSize") (ma K (ga K "BadSize") "__init__") := ⟨(cf 3 (by decide)).T, form_BadSize, PySem.W.mg_of X G (cf 3 (by decide)).ns⟩
  have E_BadCase : BErr PR K mg "BadCase" "BadCase.__init__" (inClass (top 24) 0) ["case"] (ga K "BadCase") (ma K (ga K "BadCase") "__init__") := ⟨(cf 4 (by decide)).T, form_BadCase, PySem.W.mg_of X G (cf 4 (by decide)).ns⟩
  have E_BadSum : BErr PR K mg "BadSum" "BadSum.__init__" stSum ["text"] (ga K "BadSum") (ma K (ga K "BadSum") "__init__") := ⟨(cf 5 (by decide)).T, form_BadSum, PySem.W.mg_of X G (cf 5 (by decide)).ns⟩
  have E_TooMany : BErr PR K mg "TooMany" "TooMany.__init__" stMany ["what", "many", "most"] (ga K "TooMany") (ma K (ga K "TooMany") "__init__") := ⟨(cf 6 (by decide)).T, form_TooMany, PySem.W.mg_of X G (cf 6 (by decide)).ns⟩
  have M_BookCode : Mk K (ga K "BookCode") (ma K (ga K "BookCode") "__init__") := mkr_ok (fact 45 rfl)
  have C_BookCode : Cls K (ga K "BookCode") := cls_ok (fact 37 rfl)
  have N_BookCode : ∀ f ∈ (["kind", "rules", "text", "rows", "forms", "jumps", "answers"] : List Str), NoAttr K (ga K "BookCode") f := fun f hf => by
    rcases List.mem_cons.mp hf with e | hf
    · rw [e]; exact noat_ok (fact 38 rfl)
    rcases List.mem_cons.mp hf with e | hf
    · rw [e]; exact noat_ok (fact 39 rfl)
    rcases List.mem_cons.mp hf with e | hf
    · rw [e]; exact noat_ok (fact 40 rfl)
    rcases List.mem_cons.mp hf with e | hf
    · rw [e]; exact noat_ok (fact 41 rfl)
    rcases List.mem_cons.mp hf with e | hf
    · rw [e]; exact noat_ok (fact 42 rfl)
    rcases List.mem_cons.mp hf with e | hf
    · rw [e]; exact noat_ok (fact 43 rfl)
    rw [List.mem_singleton.mp hf]; exact noat_ok (fact 44 rfl)
  have M_BookRules : Mk K (ga K "BookRules") (ma K (ga K "BookRules") "__init__") := mkr_ok (fact 50 rfl)
  have C_BookRules : Cls K (ga K "BookRules") := cls_ok (fact 46 rfl)
  have N_BookRules : ∀ f ∈ (["keep", "times", "more"] : List Str), NoAttr K (ga K "BookRules") f := fun f hf => by
    rcases List.mem_cons.mp hf with e | hf
    · rw [e]; exact noat_ok (fact 47 rfl)
    rcases List.mem_cons.mp hf with e | hf
    · rw [e]; exact noat_ok (fact 48 rfl)
    rw [List.mem_singleton.mp hf]; exact noat_ok (fact 49 rfl)
  have M_BookDesk : Mk K (ga K "BookDesk") (ma K (ga K "BookDesk") "__init__") := mkr_ok (fact 59 rfl)
  have C_BookDesk : Cls K (ga K "BookDesk") := cls_ok (fact 51 rfl)
  have N_BookDesk : ∀ f ∈ (["names", "size", "seals", "written", "back", "again", "is_changed"] : List Str), NoAttr K (ga K "BookDesk") f := fun f hf => by
    rcases List.mem_cons.mp hf with e | hf
    · rw [e]; exact noat_ok (fact 52 rfl)
    rcases List.mem_cons.mp hf with e | hf
    · rw [e]; exact noat_ok (fact 53 rfl)
    rcases List.mem_cons.mp hf with e | hf
    · rw [e]; exact noat_ok (fact 54 rfl)
    rcases List.mem_cons.mp hf with e | hf
    · rw [e]; exact noat_ok (fact 55 rfl)
    rcases List.mem_cons.mp hf with e | hf
    · rw [e]; exact noat_ok (fact 56 rfl)
    rcases List.mem_cons.mp hf with e | hf
    · rw [e]; exact noat_ok (fact 57 rfl)
    rw [List.mem_singleton.mp hf]; exact noat_ok (fact 58 rfl)
  have M_BookPlay : Mk K (ga K "BookPlay") (ma K (ga K "BookPlay") "__init__") := mkr_ok (fact 68 rfl)
  have C_BookPlay : Cls K (ga K "BookPlay") := cls_ok (fact 60 rfl)
  have N_BookPlay : ∀ f ∈ (["ended", "fields", "written", "back", "again", "seals", "broken"] : List Str), NoAttr K (ga K "BookPlay") f := fun f hf => by
    rcases List.mem_cons.mp hf with e | hf
    · rw [e]; exact noat_ok (fact 61 rfl)
    rcases List.mem_cons.mp hf with e | hf
    · rw [e]; exact noat_ok (fact 62 rfl)
    rcases List.mem_cons.mp hf with e | hf
    · rw [e]; exact noat_ok (fact 63 rfl)
    rcases List.mem_cons.mp hf with e | hf
    · rw [e]; exact noat_ok (fact 64 rfl)
    rcases List.mem_cons.mp hf with e | hf
    · rw [e]; exact noat_ok (fact 65 rfl)
    rcases List.mem_cons.mp hf with e | hf
    · rw [e]; exact noat_ok (fact 66 rfl)
    rw [List.mem_singleton.mp hf]; exact noat_ok (fact 67 rfl)
  have M_Owed : Mk K (ga K "Owed") (ma K (ga K "Owed") "__init__") := mkr_ok (fact 74 rfl)
  have C_Owed : Cls K (ga K "Owed") := cls_ok (fact 69 rfl)
  have N_Owed : ∀ f ∈ (["written", "back", "again", "fields"] : List Str), NoAttr K (ga K "Owed") f := fun f hf => by
    rcases List.mem_cons.mp hf with e | hf
    · rw [e]; exact noat_ok (fact 70 rfl)
    rcases List.mem_cons.mp hf with e | hf
    · rw [e]; exact noat_ok (fact 71 rfl)
    rcases List.mem_cons.mp hf with e | hf
    · rw [e]; exact noat_ok (fact 72 rfl)
    rw [List.mem_singleton.mp hf]; exact noat_ok (fact 73 rfl)
  obtain ⟨dIn, uIn⟩ : ∃ fd, Fun K "__init__" "BookCode.__init__" sInit (ma K (ga K "BookCode") "__init__") fd := fun_of (meth 0 rfl rfl) (ex 12 rfl)
  have bIn := uIn.binds (ps := ["self", "kind", "rules", "text"]) fun _ _ _ _ _ _ us hl => match us, hl with | [_, _, _, _], _ => rfl
  obtain ⟨dIr, uIr⟩ : ∃ fd, Fun K "__init__" "BookRules.__init__" sI (ma K (ga K "BookRules") "__init__") fd := fun_of (meth 1 rfl rfl) (ex 13 rfl)
  have bIr := uIr.binds (ps := ["self", "keep"]) fun _ _ _ _ _ _ us hl => match us, hl with | [_, _], _ => rfl
  obtain ⟨dKr, uKr⟩ : ∃ fd, Fun K "kept_rows" "BookRules.kept_rows" sKr (ma K (ga K "BookRules") "kept_rows") fd := fun_of (meth 2 rfl rfl) (ex 14 rfl)
  have bKr := uKr.binds (ps := ["self", "size"]) fun _ _ _ _ _ _ us hl => match us, hl with | [_, _], _ => rfl
  obtain ⟨dIu, uIu⟩ : ∃ fd, Fun K "in_use" "BookRules.in_use" sIu (ma K (ga K "BookRules") "in_use") fd := fun_of (meth 3 rfl rfl) (ex 15 rfl)
  have bIu := uIu.binds (ps := ["self", "size"]) fun _ _ _ _ _ _ us hl => match us, hl with | [_, _], _ => rfl
  obtain ⟨dBi, uBi⟩ : ∃ fd, Fun K "__init__" "BookDesk.__init__" sBi (ma K (ga K "BookDesk") "__init__") fd := fun_of (meth 4 rfl rfl) (ex 16 rfl)
  have bBi := uBi.binds (ps := ["self", "size", "keep", "fields", "seals"]) fun _ _ _ _ _ _ us hl => match us, hl with | [_, _, _, _, _], _ => rfl
  obtain ⟨dPi, uPi⟩ : ∃ fd, Fun K "__init__" "BookPlay.__init__" IdL.sPi (ma K (ga K "BookPlay") "__init__") fd := fun_of (meth 5 rfl rfl) (ex 17 rfl)
  have bPi := uPi.binds (ps := ["self", "ended", "desk", "broken"]) fun _ _ _ _ _ _ us hl => match us, hl with | [_, _, _, _], _ => rfl
  obtain ⟨dOi, uOi⟩ : ∃ fd, Fun K "__init__" "Owed.__init__" sOi (ma K (ga K "Owed") "__init__") fd := fun_of (meth 6 rfl rfl) (ex 18 rfl)
  have bOi := uOi.binds (ps := ["self", "written", "back", "again", "fields"]) fun _ _ _ _ _ _ us hl => match us, hl with | [_, _, _, _, _], _ => rfl
  have e := hfa.symm.trans glW
  cases e
  obtain ⟨oc, od, kV, doc, pm, an, cdv, ct, osl, efd, lk, hcd⟩ := ulW.ex
  refine ⟨dlW, fun s v => by rw [efd]; exact .of_eq rfl, fun base _ _ => ?_⟩
  have T : Glo mg := ⟨f_len, f_int, i_MOST_FIGURES, i_MOST_TERMS, i_MOST_PARTS, f_enumerate, f_tuple⟩
  have TB : Glob mg := ⟨f_len, f_int, f_list, f_abs⟩
  have TV : Gv mg := ⟨f_len, f_int, f_bool, f_tuple, f_list, f_dict, f_zip, f_isinstance, f_isinstance, f_sum, f_all, f_range, f_enumerate⟩
  have GB : GloB K mg := ⟨⟨_, a_NAMES, t_NAMES⟩, ⟨_, a_REGISTERS, t_REGISTERS⟩, ⟨_, a_FIELDS, t_FIELDS⟩, ⟨_, a_PLACES, t_PLACES⟩, ⟨_, a_WORDS, t_WORDS⟩⟩
  have GK : GloKw K w mg := ⟨⟨_, es_KINDS_OF_WORDS, n_KINDS_OF_WORDS, a_KINDS_OF_WORDS, D_KINDS_OF_WORDS, e_KINDS_OF_WORDS⟩, i_MOST_SETTINGS⟩
  have EN : ∃ p, mg "ENDING" = some (.ref p) ∧ KTup K p (endL.map V.str) := ⟨_, a_ENDING, t_ENDING⟩
  have OCD : OCd K (ga K "BookCode") := ⟨C_BookCode, N_BookCode⟩
  have OBK : OBk K (ga K "BookRules") := ⟨C_BookRules, N_BookRules⟩
  have OBD : OBd K (ga K "BookDesk") := ⟨C_BookDesk, N_BookDesk⟩
  have OPL : OPl K (ga K "BookPlay") := ⟨C_BookPlay, N_BookPlay⟩
  have OOW : OOw K (ga K "Owed") := ⟨C_Owed, N_Owed⟩
  have MKR := meth_ok (fact 75 rfl)
  have MIU := meth_ok (fact 76 rfl)
  have sNu : FNum K mg _ dNu := ⟨uNu, bNu, gNu⟩
  have sTe : FTerm K mg _ dTe := ⟨uTe, bTe, gTe⟩
  have sSu : FSum K mg _ dSu := ⟨uSu, bSu, gSu⟩
  have oSu : FnOk PR w K mg base CX0 3 _ dSu ["words", "names"] (spSum K) := ok_sum uSu sNu sTe T
  have oTs : FnOk PR w K mg base CX0 4 _ dTs ["words", "names", "phrases"] (spTest K) := ok_test uTs sNu sTe ⟨uPa, bPa, gPa⟩ ⟨uPs, bPs, gPs⟩ T
  have oSe : FnOk PR w K mg base CX0 4 _ dSe ["target", "words"] (spTW K settB) := ok_sett uSe ⟨uSl, bSl, gSl⟩ sSu oSu T GB
  have oMv : FnOk PR w K mg base CX0 4 _ dMv ["word", "words"] (spWW K moveD) := ok_move uMv sSu oSu T GB
  have oBl : FnOk PR w K mg base CX0 5 _ dBl ["words"] (spRead K bookD) := ok_bl uBl ⟨uTs, bTs, gTs⟩ ⟨uSe, bSe, gSe⟩ ⟨uMv, bMv, gMv⟩ oTs oSe oMv T GB
  have TC : GloC PR w K mg base := ⟨⟨_, a_KINDS, t_KINDS⟩, i_MOST_LINES, i_MOST_IFS, ⟨_, gBl, ⟨⟨dBl, oBl, bBl⟩, uBl.kp, book_read⟩⟩⟩
  have oFo : FnOk PR w K mg base (CX PR w) 6 _ dFo ["rows", "read_line"] (spForms PR w K mg base 5 (ga K "BadLine")) := ok_forms (n := 5) (by decide) uFo ⟨uSp, bSp, gSp⟩ ⟨uCl, bCl, gCl⟩ E_BadLine f_super T
  have oCo : FnOk PR w K mg base (CX PR w) 7 _ dCo ["text", "read_line", "most_lines", "most_ifs"] (spCode PR w K mg base 5 (ga K "BadLine") (ga K "TooMany")) := ok_code (n := 5) (by decide) uCo ⟨uFo, bFo, gFo⟩ ⟨uLi, bLi, gLi⟩ oFo E_TooMany f_super T
  have oWy : FnOk PR w K mg base CX0 2 _ dWy ["forms", "jumps"] (spWays K) := ok_ways uWy ⟨uSt, bSt, gSt⟩ T EN
  have oWb : FnOk PR w K mg base CX0 2 _ dWb ["forms", "way"] (spWb K) := ok_wb uWb ⟨uCn, bCn, gCn⟩ ⟨uMo, bMo, gMo⟩ GK T
  have oFf : FnOk PR w K mg base CX0 1 _ dFf ["kind", "form"] (spFor K) := ok_for uFf GK
  have oLe : FnOk PR w K mg base CX0 3 _ dLe ["kind", "forms", "jumps"] (spLeast K) := ok_least uLe ⟨uFf, bFf, gFf⟩ ⟨uWb, bWb, gWb⟩ ⟨uWy, bWy, gWy⟩ oFf oWb oWy T f_min
  have oIn : FnOk PR w K mg base (CX PR w) 8 _ dIn ["self", "kind", "rules", "text"] (spInitF K (ga K "BookCode")) := ok_initF uIn ⟨uCo, bCo, gCo⟩ ⟨uLe, bLe, gLe⟩ oCo oLe E_Refused E_BadKind f_super T TC OCD
  have oKe : FnOk PR w K mg base CX0 4 _ dKe ["text"] (spKeep K) := ok_keep uKe ⟨uSp, bSp, gSp⟩ sSu oSu f_isinstance f_str
  have oIr : FnOk PR w K mg base (CX PR w) 5 _ dIr ["self", "keep"] (spI (ga K "BookRules") (ga K "BadSum")) := ok_i uIr ⟨uKe, bKe, gKe⟩ oKe E_BadSum f_super f_sum OBK
  have sWh : FWhole K mg _ dWh := ⟨uWh, bWh, gWh⟩
  have sFr : FFrom K mg _ dFr := ⟨uFr, bFr, gFr⟩
  have oWh : FnOk PR w K mg base CX0 1 _ dWh ["value"] spWh := ok_wh uWh TV
  have oFr : FnOk PR w K mg base CX0 2 _ dFr ["value", "least"] spFr := ok_fr uFr sWh oWh
  have oBe : FnOk PR w K mg base CX0 2 _ dBe ["value", "least", "most"] spBw := ok_bw uBe sWh oWh
  have oCk : FnOk PR w K mg base (CX PR w) 3 _ dCk ["size"] spCk := ok_ck uCk sFr oFr E_BadSize f_super
  have oKr : FnOk PR w K mg base (CX PR w) 4 _ dKr ["self", "size"] (spKr (ga K "BookRules")) := ok_kr uKr ⟨uCk, bCk, gCk⟩ oCk OBK
  have oIu : FnOk PR w K mg base (CX PR w) 5 _ dIu ["self", "size"] (spIu (ga K "BookRules")) := ok_iu uIu MKR bKr oKr OBK
  have oAl : FnOk PR w K mg base CX0 3 _ dAl ["value"] (spAl K) := ok_al uAl sFr oFr TV
  have oBc : FnOk PR w K mg base (CX PR w) 6 _ dBc ["rules", "kind", "case"] (spBc K (ga K "BookRules")) := ok_bc uBc sFr oFr ⟨uBe, bBe, gBe⟩ oBe ⟨uAl, bAl, gAl⟩ oAl MIU bIu oIu MKR bKr oKr OBK TV
  have sFi : IdL.FFo K mg _ dFi := ⟨uFi, bFi, gFi⟩
  have oFi : FnOk PR w K mg base CX0 1 _ dFi ["case"] (spFo K) := ok_fo uFi TV
  have sPb : IdL.FPb K mg _ dPb := ⟨uPb, bPb, gPb⟩
  have oPb : FnOk PR w K mg base CX0 1 _ dPb ["size", "place", "many"] spPb := ok_pb uPb TV
  have sPo : IdL.FPo K mg _ dPo := ⟨uPo, bPo, gPo⟩
  have oPo : FnOk PR w K mg base CX0 1 _ dPo ["size", "place", "many"] spPo := ok_po uPo TV
  have oSo : FnOk PR w K mg base CX0 1 _ dSo ["case"] (spSo K) := ok_so uSo TV
  have oOi : FnOk PR w K mg base CX0 1 _ dOi ["self", "written", "back", "again", "fields"] (spOi (ga K "Owed")) := ok_oi uOi OOW
  have oOn : FnOk PR w K mg base CX0 3 _ dOn ["case", "keep"] (spOn K (ga K "Owed")) := ok_on uOn sFi oFi M_Owed bOi oOi a_Owed
  have oOf : FnOk PR w K mg base CX0 3 _ dOf ["case"] (spO1 K (ga K "Owed") owedF) := ok_of uOf sFi oFi sPb oPb M_Owed bOi oOi a_Owed
  have oOu : FnOk PR w K mg base CX0 3 _ dOu ["case"] (spO1 K (ga K "Owed") owedU) := ok_ou uOu sFi oFi sPb oPb M_Owed bOi oOi a_Owed
  have oOr : FnOk PR w K mg base CX0 3 _ dOr ["case"] (spO1 K (ga K "Owed") owedR) := ok_or uOr sFi oFi sPo oPo M_Owed bOi oOi a_Owed
  have oOb : FnOk PR w K mg base CX0 4 _ dOb ["kind", "case", "keep"] (spOb K (ga K "Owed")) := ok_ob uOb ⟨uOn, bOn, gOn⟩ oOn ⟨uOf, bOf, gOf⟩ oOf ⟨uOu, bOu, gOu⟩ oOu ⟨uOr, bOr, gOr⟩ oOr
  have oBi : FnOk PR w K mg base CX0 1 _ dBi ["self", "size", "keep", "fields", "seals"] (spBi K (ga K "BookDesk")) := ok_bi uBi OBD a_FIELDS t_FIELDS TV
  have sTf : IdL.FTf K mg _ dTf := ⟨uTf, bTf, gTf⟩
  have oTf : FnOk PR w K mg base CX0 1 _ dTf ["desk"] (spTf (ga K "BookDesk")) := ok_tf uTf OBD a_FIELDS t_FIELDS TV
  have sIp : IdL.FIp K mg _ dIp := ⟨uIp, bIp, gIp⟩
  have oIp : FnOk PR w K mg base CX0 1 _ dIp ["desk", "number"] (spIp (ga K "BookDesk")) := ok_ip uIp OBD
  have sTv : IdL.FTv K mg _ dTv := ⟨uTv, bTv, gTv⟩
  have oTv : FnOk PR w K mg base CX0 1 _ dTv ["desk", "term"] (spTv (ga K "BookDesk")) := ok_tv uTv OBD TV
  have sSv : IdL.FSv K mg _ dSv := ⟨uSv, bSv, gSv⟩
  have oSv : FnOk PR w K mg base CX0 2 _ dSv ["desk", "terms"] (spSv K (ga K "BookDesk")) := ok_sv uSv sTv oTv TV
  have oCm : FnOk PR w K mg base CX0 1 _ dCm ["left", "sign", "right"] spCm := ok_cm uCm
  have oTh : FnOk PR w K mg base CX0 2 _ dTh ["desk", "parts"] (spTh K (ga K "BookDesk")) := ok_th uTh sTv oTv ⟨uCm, bCm, gCm⟩ oCm TV
  have sSn : IdL.FSn K mg _ dSn := ⟨uSn, bSn, gSn⟩
  have oSn : FnOk PR w K mg base CX0 1 _ dSn ["desk", "name", "number"] (spSn (ga K "BookDesk")) := ok_sn uSn OBD a_FIELDS t_FIELDS
  have oP1 : FnOk PR w K mg base CX0 3 _ dP1 ["desk", "form"] (spStp K (ga K "BookDesk") okSet fSet) := ok_ps uP1 sSn oSn sSv oSv
  have oP2 : FnOk PR w K mg base CX0 3 _ dP2 ["desk", "form"] (spStp K (ga K "BookDesk") okWrap fWrap) := ok_pw uP2 OBD sSn oSn sSv oSv sIp oIp
  have oP3 : FnOk PR w K mg base CX0 1 _ dP3 ["desk", "form"] (spStp K (ga K "BookDesk") okSeal fSeal) := ok_pl uP3 OBD
  have oP4 : FnOk PR w K mg base CX0 2 _ dP4 ["desk", "form"] (spStp K (ga K "BookDesk") okWrite fWrite) := ok_pr uP4 OBD sIp oIp
  have sTo : IdL.FTo K mg _ dTo := ⟨uTo, bTo, gTo⟩
  have oP5 : FnOk PR w K mg base CX0 4 _ dP5 ["desk", "form"] (spStp K (ga K "BookDesk") (okMv .back) fBack) := ok_pk uP5 OBD sTo (ok_to .back uTo OBD sSv oSv sIp oIp) TV
  have oP6 : FnOk PR w K mg base CX0 4 _ dP6 ["desk", "form"] (spStp K (ga K "BookDesk") (okMv .again) fAgain) := ok_pa uP6 OBD sTo (ok_to .again uTo OBD sSv oSv sIp oIp) TV
  have oSt : FnOk PR w K mg base CX0 1 _ dSt ["forms", "jumps", "line"] (spStepT K) := ok_stepT uSt TV
  have k_P1 : KDct K w (ga K "STEPS") "set" (.ref (ga K "play_set")) := by
    have q := ba x_0
    have e := kdct_of ⟨es_STEPS, n_STEPS, D_STEPS⟩ q.1
    rw [of_decide_eq_true q.2] at e
    exact e
  have k_P2 : KDct K w (ga K "STEPS") "wrap" (.ref (ga K "play_wrap")) := by
    have q := ba x_1
    have e := kdct_of ⟨es_STEPS, n_STEPS, D_STEPS⟩ q.1
    rw [of_decide_eq_true q.2] at e
    exact e
  have k_P3 : KDct K w (ga K "STEPS") "sealed" (.ref (ga K "play_sealed")) := by
    have q := ba x_2
    have e := kdct_of ⟨es_STEPS, n_STEPS, D_STEPS⟩ q.1
    rw [of_decide_eq_true q.2] at e
    exact e
  have k_P4 : KDct K w (ga K "STEPS") "write" (.ref (ga K "play_write")) := by
    have q := ba x_3
    have e := kdct_of ⟨es_STEPS, n_STEPS, D_STEPS⟩ q.1
    rw [of_decide_eq_true q.2] at e
    exact e
  have k_P5 : KDct K w (ga K "STEPS") "back" (.ref (ga K "play_back")) := by
    have q := ba x_4
    have e := kdct_of ⟨es_STEPS, n_STEPS, D_STEPS⟩ q.1
    rw [of_decide_eq_true q.2] at e
    exact e
  have k_P6 : KDct K w (ga K "STEPS") "again" (.ref (ga K "play_again")) := by
    have q := ba x_5
    have e := kdct_of ⟨es_STEPS, n_STEPS, D_STEPS⟩ q.1
    rw [of_decide_eq_true q.2] at e
    exact e
  have oPf : FnOk PR w K mg base CX0 5 _ dPf ["code", "desk"] (spPf K (ga K "BookCode") (ga K "BookDesk")) := ok_pf uPf OCD ⟨uSt, bSt, gSt⟩ oSt ⟨uTh, bTh, gTh⟩ oTh ⟨uP1.kp, bP1⟩ ⟨uP2.kp, bP2⟩ ⟨uP3.kp, bP3⟩ ⟨uP4.kp, bP4⟩ ⟨uP5.kp, bP5⟩ ⟨uP6.kp, bP6⟩ oP1 oP2 oP3 oP4 oP5 oP6 a_STEPS k_P1 k_P2 k_P3 k_P4 k_P5 k_P6 TV
  have oBd : FnOk PR w K mg base CX0 2 _ dBd ["desk", "owed"] (spBd (ga K "BookDesk") (ga K "Owed")) := ok_bd uBd OBD OOW sTf oTf TV
  have oBp : FnOk PR w K mg base CX0 3 _ dBp ["desk", "owed", "ended"] (spBp (ga K "BookDesk") (ga K "Owed")) := ok_bp uBp OBD ⟨uBd, bBd, gBd⟩ oBd TV
  have oPi : FnOk PR w K mg base CX0 2 _ dPi ["self", "ended", "desk", "broken"] (spPi (ga K "BookPlay") (ga K "BookDesk")) := ok_pi uPi OPL OBD sTf oTf TV
  have oBk : FnOk PR w K mg base (CX PR w) 7 _ dBk ["code", "case"] (spPbk K (ga K "BookCode") (ga K "BookRules") (ga K "BookPlay")) := ok_pbk uBk OCD OBK ⟨uBc, bBc, gBc⟩ oBc MKR bKr oKr sFi oFi ⟨uSo, bSo, gSo⟩ oSo M_BookDesk bBi oBi a_BookDesk ⟨uPf, bPf, gPf⟩ oPf ⟨uOb, bOb, gOb⟩ oOb ⟨uBp, bBp, gBp⟩ oBp M_BookPlay bPi oPi a_BookPlay E_BadCase f_super
  have oD : FnOk PR w K mg base CX0 1 _ dlD ["_law_pen", "_law_span"] spDraw := ok_draw ulD TB
  have sE : FTe K mg _ dlE := ⟨ulE, blE, glE⟩
  have oE : FnOk PR w K mg base CX0 1 _ dlE ["_law_text_here"] spTe := ok_te ulE TB f_range
  have sX : FTx K mg _ dlX := ⟨ulX, blX, glX⟩
  have oX : FnOk PR w K mg base CX0 1 _ dlX ["_law_terms_here"] spTx := ok_tx ulX
  have sL : FRL K mg _ dlL := ⟨ulL, blL, glL⟩
  have oLf : FnOk PR w K mg base CX0 2 (ga K "_law_rows_lines") dlL ["_law_rows"] (spRLP 0) := ⟨fun _ _ _ _ h => h.elim, fun _ _ _ _ _ _ _ _ _ _ _ _ _ h => h.elim⟩
  have oL0 : FnOk PR w K mg base CX0 3 _ dlL ["_law_rows"] (spRL 0) := ok_rl sL sX oX TB 0 oLf
  have oL1 : FnOk PR w K mg base CX0 4 _ dlL ["_law_rows"] (spRL 1) := ok_rl sL sX oX TB 1 oL0
  have oT : FnOk PR w K mg base CX0 5 _ dlT ["_law_rows"] spTxt := ok_txt ulT sL oL1
  have oR : FnOk PR w K mg base CX0 3 _ dlR ["_law_kind"] spRight := ok_right ulR ⟨ulS, blS, glS⟩ ⟨ulV, blV, glV⟩ ⟨ulI, blI, glI⟩ sE (ok_set ulS sE oE) (ok_wrap ulV sE oE) (ok_if ulI) oE
  have oH : FnOk PR w K mg base CX0 6 _ dlH [] (spRows K rowsH) := ok_hand ulH ⟨ulT, blT, glT⟩ oT ⟨ulR, blR, glR⟩ oR
  have oF : FnOk PR w K mg base CX0 1 _ dlF [] (spRows K rowsF) := ok_far ulF
  have oO : FnOk PR w K mg base CX0 1 _ dlO ["_law_case", "_law_by"] (spTurn K) := ok_turn ulO TV
  exact ok_law ulW ⟨ulP, blP, glP⟩ (ok_pen ulP TB) ⟨ulH, blH, glH⟩ oH ⟨ulF, blF, glF⟩ oF ⟨ulD, blD, glD⟩ oD ⟨ulO, blO, glO⟩ oO ⟨uBk, bBk, gBk⟩ oBk ⟨ulT, blT, glT⟩ oT ⟨ulR, blR, glR⟩ oR M_BookRules oIr a_BookRules bIr OPL M_BookCode oIn a_BookCode bIn TV
end IdL
open PySem PySem.W PySem.Calls PyProof.Rows
set_option maxHeartbeats 0 in
theorem PySem.Challenge.cw_heldplaces_k70_book_plays_by_hand_holds : PySem.Challenge.rw_heldplaces_k70_book_plays_by_hand.Holds := by
  w_on; o_law
  refine HandSHeadRun.head_any (r := IdL.RR) (q := view IdL.RR.prog [111]) (H := IdL.hkL) (ob := Hd.obL IdL.adsL IdL.exK IdL.fvK IdL.tabL) (M := 20000) (loose := IdL.looseL) (d := HandSHeadRun.topDef IdL.RR.prog 111) (kwd := []) Hd.obL_eq
    (by kernel_rfl) (fun s => by kernel_rfl) IdL.run (by kernel_rfl) (by kernel_rfl) (by kernel_rfl) (by rfl) (by first | assumption | decide +kernel) (by decide +kernel) ⟨rfl, rfl, rfl, rfl, rfl, by decide +kernel⟩ ?hw ?hc
  case hw => w_witness2
  case hc =>
    refine L2.walk_ofE (l := PySem.Challenge.rw_heldplaces_k70_book_plays_by_hand) (n := 63) (k := 10) (x := "_law_script") (CX := L2.CX0) rfl (by decide) (by kernel_rfl) ⟨rfl, by decide, by decide⟩ ?F (fun _ _ _ _ z => z)
    intro w mg fa h Y G hmg0
    obtain ⟨K, KX, c1, c2, c3⟩ := Y
    have hmg : mg ("law" : PySem.Str) = some (.ref fa) := by
      have e : (HandSHeadRun.topDef IdL.RR.prog 111).name = ("law" : PySem.Str) := by kernel_rfl
      rw [← e]
      exact hmg0
    obtain ⟨fd, hb, hF⟩ := IdL.allL (w := w) KX G hmg c1 c2 c3
    exact ⟨K, fd, IdL.spLaw K, KX, hb, fun H a ns hl _ hS => ⟨a, ns, rfl, hS, hl, fun _ => rfl⟩, hF⟩
