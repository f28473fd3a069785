import PyProof.Rows.All
import Wide.All
import OpenK.AllK
import Wide.FinOn
import KE.KExcSuper
import HandS.Words
import HandS.WordsExc
import HandS.Walk
import HandS.Comp
import HandS.ExcIs
import KE.KExcIs
import HandS.Defaults
import HandS.Head0
import HandS.Head1
import HandS.Head2
import HandS.HeadEnd
import HandS.HeadHook1
import HandS.HeadHook2
import HandS.HeadHook3
import PyProof.EqAt
import PyProof.EqKinds
import PyProof.TupleCall
import HandS.ExcInit
import HandS.ExcField
import HandS.TryMany
import HandS.ForMost
import HandS.Wide
import KE.OsScanText
import HandS.Iter
import HandS.Deep
import HandS.Style
import HandS.WideBits
import HandS.More
import HandS.CallLocal
import HandS.IsInst
import KE.GoesEnum
import HandS.SortRule
import PySem.Challenge.RW_heldplaces_k05_pages_refused
set_option Elab.async false
set_option linter.all false
set_option maxRecDepth 100000
set_option maxHeartbeats 4000000
namespace Law
open PySem L2
abbrev veTail : List Value := [.type "ValueError", .type "Exception", .type "BaseException", .type "object"]
end Law
namespace Hd
open PySem PySem.Spec PyProof.Rows L2 He
abbrev FnO : Type := Option (Str × Str × Arguments × FuncBody × Scope × Addr × List Str × Addr)
def fnO (K : PySem.W.Frag) (a : Addr) : FnO := match K.lookup a with
  | some ⟨_, _, .func fd, _⟩ => some (fd.name, fd.qualname, fd.params, fd.body, fd.scope, fd.globals, fd.closure.map (·.1), fd.builtins)
  | _ => none
def isNon : Value → Bool
  | .none => true
  | _ => false
def fnB (K : PySem.W.Frag) (a : Addr) (q : Str) : Bool := PySem.W.keepIn K (.ref a) && (match K.lookup a with
  | some ⟨_, _, .func fd, _⟩ => PySem.W.codeIn K fd.code q && isNon fd.defaults
  | _ => false)
/-- a def's value, as it is awaited -/
def fnV (x qual : Str) (st : Stmt) (cl : List Str) : FnO := some (x, qual, defArgs st, .stmts (defBody st), defScope st, mainGlobals, cl, builtinsNs)
def fileB (P : Program) (K : PySem.W.Frag) (cda : Addr) : Bool := match K.lookup cda with
  | some ⟨_, _, .fields vs, _⟩ => (match (vs[2]? : Option Value) with
    | some (.str file _) => (P.main.file : Str) == file
    | _ => false)
  | _ => false
def cellB (K : PySem.W.Frag) (cc C : Addr) : Bool := match K.lookup cc with
  | some ⟨_, _, .cell (some (.ref D)), _⟩ => D == C
  | _ => false
def refOf : Value → Option Addr
  | .ref a => some a
  | _ => none
def initB (P : Program) (K : PySem.W.Frag) (C : Addr) (qual : Str) (fd : FuncData) : Bool := isNon fd.defaults && (match fd.closure with
  | [q] => (match refOf fd.code with
    | some cda => PySem.W.codeIn K (.ref cda) qual && (fileB P K cda && cellB K q.2 C)
    | none => false)
  | _ => false)
def clsB (K : PySem.W.Frag) (C CH : Addr) : Bool := match K.lookup C with
  | some ⟨.type "type", _, .cls cd, sl⟩ => decide (cd.mro = .ref C :: .ref CH :: Law.veTail) && (cd.hasDict && (!cd.hasDel && (match sl.toList with
    | [_, _, _, _, some (.builtin n), _] => n == "ValueError.__new__"
    | _ => false)))
  | _ => false
/-- all of an error class that is asked of the written part, by its name -/
def errB (P : Program) (K : PySem.W.Frag) (x hn qual : Str) (fs : List Str) : Bool :=
  eqO (PySem.W.nsIn K mainGlobals x) (some (some (.ref (ga K x)))) && (clsB K (ga K x) (ga K hn) && (eqO (PySem.W.findIn K (.ref (ga K x)) "__init__") (some (some (.ref (ma K (ga K x) "__init__")))) &&
  ((match K.lookup (ma K (ga K x) "__init__") with
    | some ⟨_, _, .func fd, _⟩ => initB P K (ga K x) qual fd
    | _ => false) && (decide (PySem.W.typeIn K (.ref (ma K (ga K x) "__init__")) = some (.type "function")) && (eqO (PySem.W.findIn K (.ref (ga K x)) "__setattr__") (some (some (.builtin "object.__setattr__"))) &&
  (eqO (PySem.W.findIn K (.ref (ga K x)) "__getattribute__") (some (some (.builtin "BaseException.__getattribute__"))) && (eqO (PySem.W.findIn K (.ref (ga K x)) "__getattr__") (some none) && (eqO (PySem.W.findIn K (.ref (ga K x)) "__class__") (some (some (.builtin "object.__class__"))) &&
  (decide (PySem.W.typeIn K (.ref (ga K x)) = some (.type "type")) && (PySem.W.keepIn K (.ref (ga K x)) && (eqO (PySem.W.ks_superIn K (ga K x) (ga K x) "__init__") (some (some (.builtin "ValueError.__init__"))) && fs.all fun f => eqO (PySem.W.findIn K (.ref (ga K x)) f) (some none))))))))))))
/-- the facts that all classes share -/
def comB (K : PySem.W.Frag) : Bool := eqO (PySem.W.nsIn K cStatics "thirdparty.any") (some none) && (eqO (PySem.W.specialIn K (.builtin "object.__class__") "__get__") (some (some (.builtin "getset_descriptor.__get__"))) && decide (PySem.W.takesIn K (.builtin "object.__class__") = some true))
abbrev TabO : Type := List (Option (List (Option (Str × Int))))
def tabO (ts : List (Str × List Str)) (K : PySem.W.Frag) : TabO := ts.map fun t => dicW K (ga K t.1)
def tabV (ts : List (Str × List Str)) (w : World) : TabO := ts.map fun t => some (keysIn w.params t.2)
def hookL (as : List Addr) (ex : PySem.W.Frag → Bool) (fv : PySem.W.Frag → List FnO) (fw : List FnO) (ts : List (Str × List Str)) : PySem.W.Hook where
  α := (Bool × List FnO) × TabO
  obs := fun s => ((ex (frG s.heap.get? as), fv (frG s.heap.get? as)), tabO ts (frG s.heap.get? as))
  val := fun w => ((true, fw), tabV ts w)
  says := fun w h => ∃ K : PySem.W.Frag, K.In h ∧ ex K = true ∧ fv K = fw ∧ tabO ts K = tabV ts w
  of := fun _ _ e => ⟨_, frG_in, (Prod.mk.inj (Prod.mk.inj e).1).1, (Prod.mk.inj (Prod.mk.inj e).1).2, (Prod.mk.inj e).2⟩
  keeps := fun _ _ _ ⟨K, hK, c⟩ k => ⟨K, PySem.W.Frag.In.keeps hK k, c⟩
def obL (as : List Addr) (ex : PySem.W.Frag → Bool) (fv : PySem.W.Frag → List FnO) (ts : List (Str × List Str)) (s : PySem.W.SharedT) : (Bool × List FnO) × TabO :=
  ((ex (frG (HandSHeadRun.getT s) as), fv (frG (HandSHeadRun.getT s) as)), tabO ts (frG (HandSHeadRun.getT s) as))
def tupAt (K : PySem.W.Frag) (a : Addr) (xs : List Str) : Bool := match K.lookup a with
  | some ⟨.type c, _, .seq its _, _⟩ => decide (c = "tuple") && (decide (its.size ≤ sizeLine) && relAll (xs.map V.str) its.toList)
  | _ => false
/-- what a dict has for a key, as an address -/
def atK (K : PySem.W.Frag) (d : Addr) (k : Str) : Addr := match PySem.W.nsIn K d k with
  | some (some (.ref a)) => a
  | _ => 0
def atB (K : PySem.W.Frag) (d : Addr) (k : Str) : Bool := eqO (PySem.W.nsIn K d k) (some (some (.ref (atK K d k))))
def dflB (K : PySem.W.Frag) (dv : Value) (dvs : List V) : Bool := match dv with
  | .ref T => (match K.lookup T with
    | some ⟨_, _, .seq its _, _⟩ => relAll dvs its.toList
    | _ => false)
  | _ => false
def fnDB (K : PySem.W.Frag) (a : Addr) (q : Str) (dvs : List V) : Bool := PySem.W.keepIn K (.ref a) && (match K.lookup a with
  | some ⟨_, _, .func fd, _⟩ => PySem.W.codeIn K fd.code q && dflB K fd.defaults dvs
  | _ => false)
def flatV' : PyData → V
  | .str z => .str z
  | .int i => .int i
  | .bool b => .bl b
  | _ => .non
def flatOk : PyData → Bool
  | .str _ => true
  | .int _ => true
  | .bool _ => true
  | .none => true
  | _ => false
def datB (K : PySem.W.Frag) (v : Value) (d : PyData) : Bool := match v, d with
  | .ref a, .tuple ds => ds.all flatOk && (match K.lookup a with
    | some ⟨.type c, _, .seq its _, _⟩ => decide (c = "tuple") && (decide (its.size ≤ sizeLine) && relAll (ds.map flatV') its.toList)
    | _ => false)
  | _, _ => false
def entAll (K : PySem.W.Frag) : List DictEntry → List (Str × PyData) → Bool
  | [], [] => true
  | e :: es, (x, d) :: r => (match e.key with
    | .str k _ => decide (k = x) && datB K e.val d
    | _ => false) && (!e.refKey && entAll K es r)
  | _, _ => false
def entB (K : PySem.W.Frag) (a : Addr) (l : List (Str × PyData)) : Bool := match K.lookup a with
  | some ⟨_, _, .dict es _, _⟩ => entAll K es.toList l
  | _ => false
end Hd
namespace IdL
open PySem PySem.Spec PyProof.Rows L2 He Hd
def top (i : Nat) : Stmt := PySem.Challenge.pw_heldplaces_k05_pages_refused.main.body.getD i (.Pass ⟨0, 0, 0, 0⟩)
def esAll : List DictEntry → List (Str × Str) → Bool
  | [], [] => true
  | e :: es, (x, y) :: r => (match e.key, e.val with
    | .str k _, .str v _ => decide (k = x) && decide (v = y)
    | _, _ => false) && esAll es r
  | _, _ => false
def esB (K : PySem.W.Frag) (a : Addr) (phr : List (Str × Str)) : Bool := match K.lookup a with
  | some ⟨_, _, .dict es _, _⟩ => esAll es.toList phr
  | _ => false
def fnmOf (i : Nat) : Str := ((["split_lines", "is_number", "read_term", "read_sum", "read_part", "split_parts", "read_test", "is_spaced", "close_block", "read_forms", "read_code", "step_on", "find_ways", "line_kinds", "counted_names"] : List Str) ++ (["most_of", "asks_empty", "breaks_limit", "way_break", "least_refused", "read_register", "read_setting", "read_page_line", "is_whole", "is_from", "is_between", "round_up", "check_size", "has_record", "row_of"] : List Str) ++ (["is_written", "is_pair", "is_record", "is_told", "rooms_of", "are_laid_right", "is_right", "is_right_page", "is_held_slot", "is_handed", "handed_length", "handed_own", "length_at", "others_stay", "leaves_owed"] : List Str) ++ (["breaks_done", "broken_promises", "play_forms", "_law_bag", "_law_draw", "_law_room", "_law_drawn_page", "_law_is_right", "_law_spoiled", "_law_told", "law"] : List Str)).getD i ""
def ftxOf (i : Nat) : Stmt := top ((([58, 59, 60, 61, 62, 63, 64, 65, 66, 67, 68, 69, 70, 93, 94] : List Nat) ++ ([95, 96, 97, 98, 99, 107, 108, 109, 11, 12, 13, 15, 16, 21, 24] : List Nat) ++ ([25, 34, 35, 36, 37, 38, 39, 40, 41, 42, 45, 46, 48, 49, 50] : List Nat) ++ ([51, 52, 85, 116, 117, 118, 119, 121, 122, 123, 124] : List Nat)).getD i 0)
def enmOf (i : Nat) : Str := ((["BadKind", "BadLine", "Refused", "BadRule", "BadSize", "BadPage", "BadHanded", "TooMany"] : List Str)).getD i ""
def equOf (i : Nat) : Str := ((["BadKind.__init__", "BadLine.__init__", "Refused.__init__", "BadRule.__init__", "BadSize.__init__", "BadPage.__init__", "BadHanded.__init__", "TooMany.__init__"] : List Str)).getD i ""
def efsOf (i : Nat) : List Str := (([["kind"], ["line"], ["line"], ["what"], ["size"], ["page"], ["handed"], ["what", "many", "most"]] : List (List Str))).getD i []
abbrev estOf (i : Nat) : Stmt := inClass (top ((([2, 3, 4, 5, 6, 7, 8, 9] : List Nat)).getD i 0)) 0
def faL : List Fa := ([.free "len", .free "int", .free "list", .free "tuple", .free "enumerate", .free "isinstance", .free "dict", .free "min", .free "max", .free "super", .free "range", .free "bool", .free "sum", .free "sorted", .int "MOST_FIGURES" 30] : List Fa) ++ ([.int "MOST_TERMS" 4, .int "MOST_PARTS" 4, .int "MOST_SETTINGS" 3, .int "MOST_DIVISIONS" 2, .int "MOST_LINES" 40, .int "MOST_IFS" 7, .glo "ENDING", .glo "PLACED", .glo "REGISTERS", .glo "FIELDS", .glo "OWN", .glo "NAMES", .glo "PHRASES", .glo "PLAIN", .glo "KINDS"] : List Fa) ++ ([.glo "PROMISES", .glo "PageCode", .glo "PageRules", .glo "PageDesk", .glo "PagePlay", .glo "HeldError", .cls "PageCode", .noat "PageCode" "kind", .noat "PageCode" "rules", .noat "PageCode" "text", .noat "PageCode" "rows", .noat "PageCode" "forms", .noat "PageCode" "jumps", .noat "PageCode" "answers", .mkr "PageCode"] : List Fa) ++ ([.cls "PageRules", .noat "PageRules" "head", .noat "PageRules" "slot", .noat "PageRules" "unit", .noat "PageRules" "most", .mkr "PageRules", .cls "PageDesk", .noat "PageDesk" "rules", .noat "PageDesk" "size", .noat "PageDesk" "low", .noat "PageDesk" "holes", .noat "PageDesk" "slots", .noat "PageDesk" "ats", .noat "PageDesk" "lens", .noat "PageDesk" "own"] : List Fa) ++ ([.noat "PageDesk" "length", .noat "PageDesk" "registers", .noat "PageDesk" "laid", .noat "PageDesk" "spoilt", .noat "PageDesk" "is_changed", .mkr "PageDesk", .cls "PagePlay", .noat "PagePlay" "ended", .noat "PagePlay" "row", .noat "PagePlay" "slots", .noat "PagePlay" "low", .noat "PagePlay" "holes", .noat "PagePlay" "own", .noat "PagePlay" "written", .noat "PagePlay" "spoilt"] : List Fa) ++ ([.noat "PagePlay" "broken", .noat "PagePlay" "played", .noat "PagePlay" "tested", .mkr "PagePlay", .exm "BadPage" "BadPage" true, .exm "BadHanded" "BadHanded" true, .exm "BadHanded" "BadPage" false, .meth "PageRules" "in_use", .meth "PageRules" "next_in_use"] : List Fa)
def tabL : List (Str × List Str) := [("PHRASES", ["there is empty", "own is last"]), ("PLAIN", ["else", "end", "no", "quit", "pack", "clear own", "take empty", "take next", "slots = slots + 1", "slots = slots - 1"])]
abbrev PR : Program := PySem.Challenge.pw_heldplaces_k05_pages_refused
def exL (K : PySem.W.Frag) : List Bool := [
  comB K,
  (List.range 8).all (fun k => errB PR K (enmOf k) "HeldError" (equOf k) (efsOf k)),
  (List.range 56).all (fun i => fnB K (ga K (fnmOf i)) (fnmOf i) && eqO (PySem.W.nsIn K mainGlobals (fnmOf i)) (some (some (.ref (ga K (fnmOf i)))))),
  faL.all (fun f => f.ok K),
  tupAt K (ga K "ENDING") (["no", "quit", "accept", "refuse"] : List Str),
  tupAt K (ga K "PLACED") (["own.at", "own.len", "slots"] : List Str),
  tupAt K (ga K "REGISTERS") (["a", "b", "c"] : List Str),
  tupAt K (ga K "FIELDS") (["low", "holes"] : List Str),
  tupAt K (ga K "OWN") (["own.at", "own.len"] : List Str),
  tupAt K (ga K "NAMES") (["size", "head", "slot", "unit", "slots", "low", "holes", "edge", "len", "own.at", "own.len", "a", "b", "c"] : List Str),
  tupAt K (ga K "KINDS") (["put", "strike", "set", "pack"] : List Str),
  tupAt K (ga K "PROMISES") (["inside", "whole", "owed", "lawful", "books", "full"] : List Str),
  entB K (ga K "PLAIN") ([("else", .tuple [.str "else"]), ("end", .tuple [.str "end"]), ("no", .tuple [.str "no"]), ("quit", .tuple [.str "quit"]), ("pack", .tuple [.str "pack"]), ("clear own", .tuple [.str "clear"]), ("take empty", .tuple [.str "take", .str "empty"]), ("take next", .tuple [.str "take", .str "next"]), ("slots = slots + 1", .tuple [.str "slots", .int 1]), ("slots = slots - 1", .tuple [.str "slots", .int (-1)])] : List (Str × PyData)),
  esB K (ga K "PHRASES") ([("there is empty", "empty"), ("own is last", "last")] : List (Str × Str)),
  fnB K (ma K (ga K "PageCode") "__init__") "PageCode.__init__",
  fnDB K (ma K (ga K "PageRules") "__init__") "PageRules.__init__" [.non],
  fnB K (ma K (ga K "PageRules") "in_use") "PageRules.in_use",
  fnB K (ma K (ga K "PageRules") "next_in_use") "PageRules.next_in_use",
  fnB K (ma K (ga K "PageDesk") "__init__") "PageDesk.__init__",
  fnB K (ma K (ga K "PagePlay") "__init__") "PagePlay.__init__",
  fnDB K (ga K "play_page") "play_page" [.non] && eqO (PySem.W.nsIn K mainGlobals "play_page") (some (some (.ref (ga K "play_page"))))]
def exK (K : PySem.W.Frag) : Bool := (exL K).all id
def fvK (K : PySem.W.Frag) : List FnO := (List.range 56).map (fun i => fnO K (ga K (fnmOf i))) ++ ((List.range 8).map (fun k => fnO K (ma K (ga K (enmOf k)) "__init__")) ++ [fnO K (ma K (ga K "PageCode") "__init__"), fnO K (ma K (ga K "PageRules") "__init__"), fnO K (ma K (ga K "PageRules") "in_use"), fnO K (ma K (ga K "PageRules") "next_in_use"), fnO K (ma K (ga K "PageDesk") "__init__"), fnO K (ma K (ga K "PagePlay") "__init__"), fnO K (ga K "play_page")])
def fwK : List FnO := (List.range 56).map (fun i => fnV (fnmOf i) (fnmOf i) (ftxOf i) []) ++ ((List.range 8).map (fun k => fnV "__init__" (equOf k) (estOf k) ["__class__"]) ++ [fnV "__init__" "PageCode.__init__" (inClass (top 114) 0) [], fnV "__init__" "PageRules.__init__" (inClass (top 17) 0) [], fnV "in_use" "PageRules.in_use" (inClass (top 17) 1) [], fnV "next_in_use" "PageRules.next_in_use" (inClass (top 17) 2) [], fnV "__init__" "PageDesk.__init__" (inClass (top 19) 0) [], fnV "__init__" "PagePlay.__init__" (inClass (top 87) 0) [], fnV "play_page" "play_page" (top 88) []])
end IdL
namespace IdL
open PySem PySem.W PySem.Calls PyProof.Rows
abbrev RR : OpenRow := OpenLaw.row PySem.Challenge.rw_heldplaces_k05_pages_refused
/-- where the written part stands -/
def adsL : List Addr := [2, 3, 23, 24, 31, 42, 43, 45, 46, 52, 63, 64, 66, 67, 73, 84, 85, 87, 88, 94, 105, 106, 108, 109, 115, 126, 127, 129, 130, 136, 147, 148, 150, 151, 157, 168, 169, 171, 172, 178, 189, 190, 192, 193, 201, 202, 208, 209, 215, 216, 222, 223, 229, 230, 238, 244, 245, 251, 252, 258, 259, 275, 276, 293, 294, 296, 297, 314, 315, 331, 332, 338, 339, 394, 395, 401, 402, 406, 407, 411, 412, 416, 417, 423, 424, 430, 431, 437, 438, 444, 445, 446, 452, 453, 459, 460, 473, 474, 480, 481, 487, 488, 494, 495, 499, 500, 501, 507, 508, 514, 515, 521, 522, 528, 529, 535, 536, 542, 543, 547, 548, 554, 555, 561, 562, 568, 569, 573, 574, 580, 581, 587, 588, 677, 678, 691, 692, 708, 709, 714, 720, 721, 722, 726, 727, 733, 734, 740, 741, 745, 746, 750, 751, 757, 758, 762, 763, 764, 765, 766, 767, 768, 769, 770, 771, 772, 773, 774, 775, 776, 777, 778, 779, 785, 786, 792, 793, 799, 800, 801, 814, 815, 845, 846, 856, 857, 863, 864, 870, 871, 877, 878, 887, 888, 894, 895, 901, 902, 906, 907]
abbrev hkL : Hook := Hd.hookL adsL exK fvK fwK tabL
def loose0 : List PySem.Str := ["_wall", "HeldError", "BadKind", "BadLine", "Refused", "BadRule", "BadSize", "BadPage", "BadHanded", "TooMany", "is_whole", "is_from", "is_between", "round_up", "check_size", "PageRules", "PageDesk", "edge_of"]
def loose1 : List PySem.Str := ["has_record", "held_slots", "least_empty", "row_of", "is_written", "own_room", "name_value", "term_value", "sum_value", "compare", "part_holds", "test_holds", "is_pair", "is_record", "is_told", "rooms_of", "are_laid_right", "is_right"]
def loose2 : List PySem.Str := ["is_right_page", "is_held_slot", "is_handed", "PROMISES", "handed_length", "handed_own", "record_fits", "length_at", "others_stay", "leaves_owed", "breaks_done", "broken_promises", "ENDING", "MOST_FIGURES", "MOST_TERMS", "MOST_PARTS", "split_lines", "is_number"]
def loose3 : List PySem.Str := ["read_term", "read_sum", "read_part", "split_parts", "read_test", "is_spaced", "close_block", "read_forms", "read_code", "step_on", "find_ways", "play_set", "play_divide", "play_room", "may_be", "play_field", "play_slots", "play_take"]
def loose4 : List PySem.Str := ["play_clear", "play_own", "play_pack", "spoilt_by", "play_lay", "STEPS", "play_forms", "PagePlay", "play_page", "MOST_SETTINGS", "MOST_DIVISIONS", "PLACED", "line_kinds", "counted_names", "most_of", "asks_empty", "breaks_limit", "way_break"]
def loose5 : List PySem.Str := ["least_refused", "REGISTERS", "FIELDS", "OWN", "NAMES", "PHRASES", "PLAIN", "read_register", "read_setting", "read_page_line", "KINDS", "MOST_LINES", "MOST_IFS", "PageCode", "_law_bag", "_law_draw", "_law_room", "_law_drawn_page"]
def loose6 : List PySem.Str := ["_law_handed", "_law_is_right", "_law_spoiled", "_law_told"]
def looseL : List PySem.Str := loose0 ++ loose1 ++ loose2 ++ loose3 ++ loose4 ++ loose5 ++ loose6
theorem runF (w : World) : HandSHeadRun.RunEq RR (view RR.prog [124]) hkL (Hd.obL adsL exK fvK tabL) 20000 looseL (w.withFollow "special-get-raises" false) := by
  intro os
  kernel_rfl
theorem runT (w : World) : HandSHeadRun.RunEq RR (view RR.prog [124]) hkL (Hd.obL adsL exK fvK tabL) 20000 looseL (w.withFollow "special-get-raises" true) := by
  intro os
  kernel_rfl
theorem run (w : World) : HandSHeadRun.RunEq RR (view RR.prog [124]) hkL (Hd.obL adsL exK fvK tabL) 20000 looseL w := by
  have e := World.withFollow_self w "special-get-raises"
  cases hb : w.params.followText "special-get-raises" <;> rw [hb] at e
  · rw [← e]; exact runF w
  · rw [← e]; exact runT w
end IdL
/-! Own error classes over an own class over ValueError, whose __init__ says super().__init__('..') and then stores its arguments. -/
namespace Er
open PySem PySem.W PySem.Calls PyProof.Rows

/-- super().__init__('..') as a statement of the text -/
def supSt (msg : Str) (j : Nat) (p0 p1 p2 p3 p4 p5 p6 : Pos) : Stmt :=
  .Expr (.Call (.Attribute (.Call (.Name "super" p0) [] [] p1) "__init__" p2) [.Constant (.str msg) j p3] [] p4) p5
/-- self.f = f -/
def fldSt (f : Str) (q1 q2 q3 q4 : Pos) : Stmt := .Assign [.Attribute (.Name "self" q1) f q2] (.Name f q3) q4

/-- what the top has written of one error class at C, and of its __init__ at fI -/
structure Txt (P : Program) (K : Frag) (C fI : Addr) (qual : Str) (st : Stmt) (fs : List Str) : Prop where
  oc : L2.OexC K C
  xf : L2.XfC K C
  iC : findIn K (.ref C) "__init__" = some (some (.ref fI))
  tI : typeIn K (.ref fI) = some (.type "function")
  sup : ks_superIn K C C "__init__" = some (some (.builtin "ValueError.__init__"))
  sC : mroIn K C (.ref C) = some true
  sV : subIn K (.ref C) (.type "ValueError") = some true
  anyS : nsIn K cStatics "thirdparty.any" = some none
  noN : ∀ f ∈ fs, findIn K (.ref C) f = some none
  top : (P.main.scope.names.lookup ("super" : Str)).isSome = false
  fn : ∃ (a0 : Value) (a1 : Option Addr) (kV doc pm ct : Value) (an : Option Addr) (cda cc : Addr) (a2 : Array (Option Value)) (b0 c0 : Value) (b1 c1 : Option Addr) (vs : Array Value) (b2 c2 : Array (Option Value)) (file : Str) (tf : Tok),
    K.lookup fI = some ⟨a0, a1, .func (ksFn "__init__" qual (L2.defArgs st) (L2.defBody st) (L2.defScope st) .none kV doc pm an (.ref cda) ct cc), a2⟩ ∧ codeIn K (.ref cda) qual = true ∧
    K.lookup cda = some ⟨b0, b1, .fields vs, b2⟩ ∧ vs[2]? = some (.str file tf) ∧ ((P.main.file : Str) == file) = true ∧ K.lookup cc = some ⟨c0, c1, .cell (some (.ref C)), c2⟩

section
variable {P : Program} {w : World} {A : Around} {E : Value → Shared → Prop} {K : Frag} {C fI x t0 u : Addr}

/-- the bound built-in __init__ is called: the args are laid anew -/
theorem wrapped {hp : Heap} {g : Array GenState} {d : Drawn} {t : Nat} {os : OsState} {rest : List Value} {Q : Value → Shared → Prop} (T : L2.OexC K C) (X : K.In hp)
    (he : hp.get? x = some (HandSPX.excO C t0)) (hu : hp.get? u = some (kxs_mw "ValueError.__init__" x)) (hz : rest.length ≤ sizeLine)
    (hq : ∀ h' t1, (∀ b o, b ≠ x → hp.get? b = some o → h'.get? b = some o) → h'.get? x = some (HandSPX.excO C t1) → Q .none ⟨h', g, d, t, os⟩) :
    wpAny (model P w) A (call (.ref u) rest) Q E ⟨hp, g, d, t, os⟩ := by
  obtain ⟨nm, q, N, bs, bm, sn, sub, ab, col, dd, k0, k1, k2, k3, k5, hC, hbm⟩ := T.cls
  refine wpAny_call (codeAny_of_tree (show wpAny _ A.in1 (callAny (.ref u) ⟨rest, []⟩) _ _ _ from ?_))
  unfold callAny; refine wpAny_bind (wpAny_load hu ?_)
  simp only [kxs_mw, show ((Value.type "method-wrapper" == Value.type "method") || (Value.type "method-wrapper" == Value.type "builtin_function_or_method") || (Value.type "method-wrapper" == Value.type "method-wrapper")) = true from by decide, if_true]
  refine KFB.if_so (by decide) (wpAny_bind (check_bound_init F.excBase_ValueError.toExcCallFacts (X _ _ hC) he rfl (wpAny_bind (wpAny_pure (wpAny_pure ?_)))))
  exact ⟨plainId_quiet F.excBase_ValueError.init.plain _, codeAny_builtin F.excBase_ValueError.initEntry (exc_init_tree (cls := .ref C) (t0 := t0) (dv := none) (c2 := .none) (c3 := .none) (b4 := .bool false) he hz fun h' k e _ => hq h' _ k e)⟩
end

section
variable {P : Program} {w : World} {A : Around} {E : Value → Shared → Prop} {K : Frag} {C fI x t0 : Addr} {qual : Str} {st : Stmt} {fs : List Str} {mg mb m : Str → Option Value} {body : List Stmt} {s : Shared}
/-- super().__init__('..') in the frame of __init__ -/
theorem sup_at (T : Txt P K C fI qual st fs) {cda cc L : Addr} {a0 b0 c0 kV doc pm ct : Value} {a1 b1 c1 an : Option Addr} {a2 b2 c2 : Array (Option Value)} {vs : Array Value} {file : Str} {tf : Tok} {ar : Arg}
    (hfn : K.lookup fI = some ⟨a0, a1, .func (ksFn "__init__" qual (L2.defArgs st) (L2.defBody st) (L2.defScope st) .none kV doc pm an (.ref cda) ct cc), a2⟩)
    (hco : K.lookup cda = some ⟨b0, b1, .fields vs, b2⟩) (hvs : vs[2]? = some (.str file tf)) (hfile : ((P.main.file : Str) == file) = true) (hce : K.lookup cc = some ⟨c0, c1, .cell (some (.ref C)), c2⟩)
    (har : ((L2.defArgs st).posonlyargs ++ (L2.defArgs st).args).head? = some ar) (hself : m ar.arg = some (.ref x)) (hka : (L2.defScope st).names.lookup ar.arg = some .local)
    (hk : (L2.defScope st).kind = .function) (hks : (L2.defScope st).names.lookup ("super" : Str) = some .globalImplicit) (hkc : (L2.defScope st).names.lookup ("__class__" : Str) = some .free)
    (X : K.In s.heap) (hL : s.heap.Ns L m) (hx : s.heap.get? x = some (HandSPX.excO C t0)) (G : s.heap.Ns mainGlobals mg) (hm : mg "super" = none) (B : s.heap.Ns builtinsNs mb) (hb : mb "super" = some (.type "super"))
    {msg : Str} {j : Nat} {p0 p1 p2 p3 p4 p5 p6 : Pos} {Q : Flow → Shared → Prop} (hpos : (p2.endLine == p4.line) = true)
    (hq : ∀ h' tk t1, (∀ b o, b ≠ x → s.heap.get? b = some o → h'.get? b = some o) → h'.get? x = some (HandSPX.excO C t1) → Q .next { s with heap := h', toks := tk }) :
    _root_.PySem.wpAt (model P w) A (.func body (ksEnv qual (L2.defScope st) L fI (.ref cda) cc)) (exec (supSt msg j p0 p1 p2 p3 p4 p5 p6) (ksEnv qual (L2.defScope st) L fI (.ref cda) cc)) Q E s := by
  obtain ⟨nm, q, N, bs, bm, sn, sub, ab, col, dd, k0, k1, k2, k3, k5, hC, hbm⟩ := T.oc.cls
  have hcl : clsIn K C = some { name := nm, bases := bs, mro := .ref C :: bm, ns := N, qualname := q, hasDict := true, slotNames := sn, subclasses := sub, abstract := ab, collection := col, hasDel := false } := by
    unfold clsIn; rw [hC] <;> rfl
  have al : alongIn K "__init__" (((Value.ref C :: bm).dropWhile (· != .ref C)).drop 1) = some (some (.builtin "ValueError.__init__")) := by
    have y := T.sup
    unfold ks_superIn at y
    rw [hcl] at y
    exact y
  have xC : x ≠ C := fun z => by
    have y := X _ _ hC
    rw [← z, hx] at y
    cases y
  obtain ⟨hp, g, d, tk, os⟩ := s
  have eq : eval (.Call (.Attribute (.Call (.Name "super" p0) [] [] p1) "__init__" p2) [.Constant (.str msg) j p3] [] p4) (ksEnv qual (L2.defScope st) L fI (.ref cda) cc) = (do
      let ov ← attributeBase (.Call (.Name "super" p0) [] [] p1) "__init__" (ksEnv qual (L2.defScope st) L fI (.ref cda) cc) (eval (.Call (.Name "super" p0) [] [] p1) (ksEnv qual (L2.defScope st) L fI (.ref cda) cc))
      standAt p2.atName
      let (f, first) ← holding [ov] (getMethod ov "__init__" (do return (← importBound (.Call (.Name "super" p0) [] [] p1) (ksEnv qual (L2.defScope st) L fI (.ref cda) cc)).getD true))
      callWith p4 f first (backTo p4 (starEach [.Constant (.str msg) j p3] (ksEnv qual (L2.defScope st) L fI (.ref cda) cc))) []) := by
    show (do
      let ov ← attributeBase (.Call (.Name "super" p0) [] [] p1) "__init__" (ksEnv qual (L2.defScope st) L fI (.ref cda) cc) (eval (.Call (.Name "super" p0) [] [] p1) (ksEnv qual (L2.defScope st) L fI (.ref cda) cc))
      standAt p2.atName
      methodCall (.Call (.Name "super" p0) [] [] p1) "__init__" p2 p4 (ksEnv qual (L2.defScope st) L fI (.ref cda) cc) ov 1 (backTo p4 (starEach [.Constant (.str msg) j p3] (ksEnv qual (L2.defScope st) L fI (.ref cda) cc))) []) = _
    have few : methodCallForm 1 (backTo p4 (starEach [.Constant (.str msg) j p3] (ksEnv qual (L2.defScope st) L fI (.ref cda) cc))) [] = true := by rfl
    unfold methodCall methodCallPos calleeOf
    simp only [few, hpos, Bool.or_true, if_true, pure_bind]
  refine ks_wpAt_Expr_any (ks_wpAt_MethodCall (ks_wpAt_super_base (env := ksEnv qual (L2.defScope st) L fI (.ref cda) cc) hks hkc ?cn rfl (X _ _ hfn) rfl har rfl (X _ _ hco) rfl hvs hfile T.top ?_) eq) (by unfold interactive; simp [ksEnv, envX, hk])
  case cn => decide
  refine ks_loadName_global hk hks (loadGlobal_builtin (env := ksEnv qual (L2.defScope st) L fI (.ref cda) cc) G hm B hb ⟨rfl, ?_⟩)
  refine wpAny_loadName_free hk hkc rfl ⟨_, X _ _ hce, rfl⟩ (wpAny_loadName_local hk hka hL hself ?_)
  refine ks_wpAny_isType_cls (X _ _ hC) rfl ⟨rfl, ks_wpAny_call_super (X _ _ hC) rfl hx rfl (fun c z => by cases z) (looks_mroIn X T.sC) fun h1 e1 n1 => ?_⟩
  have X1 : K.In h1 := X.keeps n1
  have I1 : InstAt h1 x (HandSPX.excO C t0) C none := ⟨n1 _ _ hx, rfl, rfl, trivial⟩
  refine kxs_getMethod kxs_ValueError e1 (looks_opaque X1 T.anyS) (l₀ := .ref C :: bm) (fun A Q E s k q => wpAny_bind ((looks_clsIn X1 hcl) A _ E s k (wpAny_pure q))) rfl X1 al (I1.type.andThen (looks_subIn X1 T.sV)) xC (by decide) ?_
  have eu : (h1.push (kxs_mw "ValueError.__init__" x)).get? h1.objs.size = some (kxs_mw "ValueError.__init__" x) := Heap.get?_push_at rfl rfl
  have n2 : ∀ b o, h1.get? b = some o → (h1.push (kxs_mw "ValueError.__init__" x)).get? b = some o := fun b o e => Heap.get?_push_of_some _ e
  refine kxs_callWith (i := "ValueError.__init__") (x := x) (by rfl) (evalArgs_plain (spliced_cons (Constant_str (pos := p3) (k := j) (spliced_nil ⟨eu, ?_⟩))))
  refine wrapped T.oc (X1.keeps n2) (n2 _ _ (n1 _ _ hx)) eu (by rw [sizeLine_eq]; exact (by decide : 1 ≤ 16777216)) fun h' t1 k e => hq h' _ t1 (fun b o hb y => k b o hb (n2 b o (n1 b o y))) e
end
/-! ### the def: its text, its stores -/
structure Form (st : Stmt) (fs : List Str) : Prop where
  body : ∃ (msg : Str) (j : Nat) (p0 p1 p2 p3 p4 p5 p6 : Pos) (qs : List (Pos × Pos × Pos × Pos)), qs.length = fs.length ∧ (p2.endLine == p4.line) = true ∧ L2.defBody st = supSt msg j p0 p1 p2 p3 p4 p5 p6 :: (fs.zip qs).map fun y => fldSt y.1 y.2.1 y.2.2.1 y.2.2.2.1 y.2.2.2.2
  bind : ∀ (s : Shared) (us : List Value) (qual : Str) (kV doc pm ct cd : Value) (an : Option Addr) (cc : Addr), us.length = fs.length + 1 →
    BindsTo s (ksFn "__init__" qual (L2.defArgs st) (L2.defBody st) (L2.defScope st) .none kV doc pm an cd ct cc) ⟨us, []⟩ ((("self" : Str) :: fs).zip us)
  head : ∃ ar, ((L2.defArgs st).posonlyargs ++ (L2.defArgs st).args).head? = some ar ∧ ar.arg = "self"
  kind : (L2.defScope st).kind = .function
  co : (L2.defScope st).isCoroutine = false
  gen : (L2.defScope st).isGenerator = false
  nocell : ∀ x ∈ (L2.defScope st).names, x.2 ≠ .cell
  lsup : (L2.defScope st).names.lookup ("super" : Str) = some .globalImplicit
  lcls : (L2.defScope st).names.lookup ("__class__" : Str) = some .free
  lloc : ∀ f ∈ ("self" : Str) :: fs, (L2.defScope st).names.lookup f = some .local
  dbg : ∀ f ∈ ("self" : Str) :: fs, (f == ("__debug__" : Str)) = false
  nd : (("self" : Str) :: fs).Nodup

/-- the fields of a namespace, the later ones ahead -/
def nsOf : List (Str × Value) → Str → Option Value
  | [], _ => none
  | (f, v) :: r, y => if y = f then some v else nsOf r y

/-- at x: the exception, its dict (none, or with the fields r) -/
def Half (h : Heap) (x C : Addr) (d : Option Addr) (r : List (Str × Value)) : Prop :=
  (∃ t1 : Addr, h.get? x = some ({ cls := .ref C, dict := d, data := .fields #[.ref t1, .none, .none, .none, .bool false, .none] } : Obj)) ∧
  match d with
  | none => r = []
  | some dd => dd ≠ x ∧ h.Ns1 dd (nsOf r)

theorem nsOf_within : ∀ (r : List (Str × Value)), Within (nsOf r) (r.map (·.1))
  | [] => fun y hy => absurd rfl hy
  | (f, v) :: r => fun y hy => by
    by_cases h : y = f
    · rw [h]; exact List.mem_cons_self ..
    · refine List.mem_cons_of_mem _ (nsOf_within r y ?_)
      intro z
      exact hy ((if_neg h).trans z)

section
variable {P : Program} {w : World} {A : Around} {E : Value → Shared → Prop} {K : Frag} {C fI x : Addr} {qual : Str} {st : Stmt} {fs : List Str} {m : Str → Option Value} {env : Env}
/-- one store -/
theorem fld_at (T : L2.OexC K C) {f : Str} (hno : findIn K (.ref C) f = some none) {hp : Heap} {g : Array GenState} {dr : Drawn} {t : Nat} {os : OsState} {v : Value} {d : Option Addr} {r : List (Str × Value)} {q1 q2 q3 q4 : Pos} {Q : Flow → Shared → Prop}
    (hk : env.scope.kind = .function) (lf : env.kindOf f = some .local) (ls : env.kindOf "self" = some .local) (df : (f == ("__debug__" : Str)) = false)
    (X : K.In hp) (hL : hp.Ns env.locals m) (hf : m f = some v) (hs : m "self" = some (.ref x)) (hx : Half hp x C d r) (hz : r.length ≤ 900)
    (hq : ∀ h' tk d', (∀ b o, b ≠ x → some b ≠ d → hp.get? b = some o → h'.get? b = some o) → (∀ dd, d' = some dd → d = none → hp.objs.size ≤ dd) → (∀ dd, d = some dd → d' = some dd) → d' ≠ none → Half h' x C d' ((f, v) :: r) → Q .next ⟨h', g, dr, tk, os⟩) :
    wpAny (model P w) A (exec (fldSt f q1 q2 q3 q4) env) Q E ⟨hp, g, dr, t, os⟩ := by
  obtain ⟨nm, q, N, bs, bm, sn, sub, ab, col, dd, k0, k1, k2, k3, k5, hC, hbm⟩ := T.cls
  have hcl : clsIn K C = some { name := nm, bases := bs, mro := .ref C :: bm, ns := N, qualname := q, hasDict := true, slotNames := sn, subclasses := sub, abstract := ab, collection := col, hasDel := false } := by
    unfold clsIn; rw [hC] <;> rfl
  obtain ⟨⟨t1, ho⟩, hd⟩ := hx
  refine plainObj_wpAny_Assign_Attribute (wpAny_Name (wpAny_loadName_local hk lf hL hf (wpAny_Name (wpAny_loadName_local hk ls hL hs ?_) (by decide))) df) rfl
  cases d with
  | none =>
    obtain rfl : r = [] := hd
    refine set_plain X (ox := { cls := .ref C, dict := none, data := .fields #[.ref t1, .none, .none, .none, .bool false, .none] }) (od := none) ⟨ho, rfl, rfl, trivial⟩ T.sa ?_
    refine HandSPX.exc_osa X ho hcl (show HandSPX.refsVE (.ref C :: bm) = true from hbm) rfl hno (fun h' tk' dx k dn dne hx hn => ?_)
    exact hq h' tk' (some dx) (fun b o hb _ e => k b o hb e) (fun dd e _ => by cases e; exact dn) (fun dd e => by cases e) (by intro z; cases z) ⟨⟨t1, hx⟩, dne, hn⟩
  | some dx =>
    obtain ⟨dne, hn⟩ : dx ≠ x ∧ hp.Ns1 dx (nsOf r) := hd
    have hw := nsOf_within r
    obtain ⟨oD, _, _, hoD, _, _⟩ := hn.count hw
    refine set_plain X (ox := { cls := .ref C, dict := some dx, data := .fields #[.ref t1, .none, .none, .none, .bool false, .none] }) (od := some oD) ⟨ho, rfl, rfl, hoD⟩ T.sa ?_
    refine OEX.osa_old X ho hn hw (by rw [List.length_map]; omega) hcl (show HandSPX.refsVE (.ref C :: bm) = true from hbm) rfl hno (fun h' tk' k hn' => ?_)
    exact hq h' tk' (some dx) (fun b o _ hb e => k b o (fun z => hb (by rw [z])) e) (fun dd _ e => by cases e) (fun dd e => e) (by intro z; cases z) ⟨⟨t1, k x _ (Ne.symm dne) ho⟩, dne, hn'⟩
end
end Er
namespace Er
open PySem PySem.W PySem.Calls PyProof.Rows
section
variable {P : Program} {w : World} {A : Around} {E : Value → Shared → Prop} {K : Frag} {C fI x : Addr} {qual : Str} {st : Stmt} {fs : List Str} {m : Str → Option Value} {env : Env}
theorem lookup_mem {β : Type} : ∀ {l : List (Str × β)} {p : Str × β}, (l.map (·.1)).Nodup → p ∈ l → l.lookup p.1 = some p.2
  | [], p, _, hp => by cases hp
  | (f, v) :: l, p, nd, hp => by
    have nd' : f ∉ l.map (·.1) ∧ (l.map (·.1)).Nodup := by simpa using nd
    rcases List.mem_cons.mp hp with e | e
    · rw [e]
      simp [List.lookup]
    · have ne : p.1 ≠ f := fun z => nd'.1 (z ▸ List.mem_map_of_mem e)
      have q : (p.1 == f) = false := by simpa using ne
      have := lookup_mem nd'.2 e
      simp [List.lookup, q, this]
theorem zip_nodup {β : Type} : ∀ (ks : List Str) (zs : List β), ks.Nodup → ((ks.zip zs).map (·.1)).Nodup
  | [], _, _ => List.nodup_nil
  | _ :: _, [], _ => List.nodup_nil
  | k :: ks, z :: zs, nd => by
    have nd' : k ∉ ks ∧ ks.Nodup := by simpa using nd
    show (k :: (ks.zip zs).map (·.1)).Nodup
    refine List.nodup_cons.mpr ⟨fun hk => ?_, zip_nodup ks zs nd'.2⟩
    obtain ⟨y, hy, e⟩ := List.mem_map.mp hk
    exact nd'.1 (e ▸ (List.of_mem_zip (a := y.1) (b := y.2) hy).1)
theorem in_but {K : Frag} {h h' : Heap} {x : Addr} {d : Option Addr} (X : K.In h) (hx : K.lookup x = none) (hd : ∀ dd, d = some dd → K.lookup dd = none)
    (k : ∀ b o, b ≠ x → some b ≠ d → h.get? b = some o → h'.get? b = some o) : K.In h' := fun a o e =>
  k a o (fun z => by rw [z, hx] at e; cases e) (fun z => by rw [hd a z.symm] at e; cases e) (X a o e)
theorem free_of {K : Frag} {h : Heap} {a : Addr} (X : K.In h) (z : h.objs.size ≤ a) : K.lookup a = none := by
  cases e : K.lookup a with
  | none => rfl
  | some o => exact absurd (Heap.lt_size (X a o e)) (Nat.not_lt.mpr z)
theorem ns_but {h h' : Heap} {L : Addr} (n : h.Ns L m) (k : ∀ o, h.get? L = some o → h'.get? L = some o) : h'.Ns L m := by
  obtain ⟨oL, es, ep, hL, r⟩ := n
  exact ⟨oL, es, ep, k _ hL, r⟩
/-- the stores, one after the other -/
theorem flds_at (T : L2.OexC K C) (hk : env.scope.kind = .function) (ls : env.kindOf "self" = some .local) (hs : m "self" = some (.ref x)) (xL : env.locals ≠ x) (nx : K.lookup x = none) {g : Array GenState} {dr : Drawn} {os : OsState} {Q : Flow → Shared → Prop} :
    ∀ (ys : List (Str × Pos × Pos × Pos × Pos)) (vs : List Value) (hl : ys.length = vs.length) (no : ∀ y ∈ ys, findIn K (.ref C) y.1 = some none ∧ env.kindOf y.1 = some .local ∧ (y.1 == ("__debug__" : Str)) = false)
      (mv : ∀ p ∈ (ys.map (·.1)).zip vs, m p.1 = some p.2) {hp : Heap} {t : Nat} {d : Option Addr} {r : List (Str × Value)} (hx : Half hp x C d r) (hz : r.length + ys.length ≤ 900) (hL : hp.Ns env.locals m) (dL : some env.locals ≠ d) (X : K.In hp)
      (nd : ∀ dd, d = some dd → K.lookup dd = none)
      (hq : ∀ h' tk d', (∀ b o, b ≠ x → some b ≠ d → hp.get? b = some o → h'.get? b = some o) → (∀ dd, d' = some dd → d = none → hp.objs.size ≤ dd) → (∀ dd, d = some dd → d' = some dd) → (ys ≠ [] → d' ≠ none) → (ys = [] → d' = d) →
        Half h' x C d' (((ys.map (·.1)).zip vs).reverse ++ r) → Q .next ⟨h', g, dr, tk, os⟩),
      wpAny (model P w) A (execs (ys.map fun y => fldSt y.1 y.2.1 y.2.2.1 y.2.2.2.1 y.2.2.2.2) env) Q E ⟨hp, g, dr, t, os⟩
  | [], vs, hl, _, _, hp, t, d, r, hx, _, _, _, _, _, hq => by
    refine wpAny_execs_nil (hq hp t d (fun _ _ _ _ e => e) (fun dd e z => by rw [z] at e; cases e) (fun _ e => e) (fun z => absurd rfl z) (fun _ => rfl) ?_)
    show Half hp x C d ([] ++ r)
    exact hx
  | y :: ys, [], hl, _, _, hp, t, d, r, _, _, _, _, _, _, _ => by cases hl
  | y :: ys, v :: vs, hl, no, mv, hp, t, d, r, hx, hz, hL, dL, X, nd, hq => by
    obtain ⟨n1, n2, n3⟩ := no y (List.mem_cons_self ..)
    have hz1 : r.length + (ys.length + 1) ≤ 900 := hz
    show wpAny (model P w) A (execs (fldSt y.1 y.2.1 y.2.2.1 y.2.2.2.1 y.2.2.2.2 :: ys.map fun y => fldSt y.1 y.2.1 y.2.2.1 y.2.2.2.1 y.2.2.2.2) env) Q E ⟨hp, g, dr, t, os⟩
    refine wpAny_execs_cons (fld_at T n1 hk n2 ls n3 X hL (mv (y.1, v) (List.mem_cons_self ..)) hs hx (by omega) fun h1 t1 d1 k1 s1 e1 z1 H1 => ?_)
    show wpAny (model P w) A (execs (ys.map fun y => fldSt y.1 y.2.1 y.2.2.1 y.2.2.2.1 y.2.2.2.2) env) Q E ⟨h1, g, dr, t1, os⟩
    obtain ⟨oL, esL, epL, hoL, _⟩ := id hL
    have d1L : some env.locals ≠ d1 := fun z => by
      cases d with
      | none => exact absurd (s1 _ z.symm rfl) (Nat.not_le.mpr (Heap.lt_size hoL))
      | some dd =>
        have q := e1 dd rfl
        rw [← z] at q
        exact dL q
    have nd1 : ∀ dd, d1 = some dd → K.lookup dd = none := fun dd z => by
      cases d with
      | none => exact free_of X (s1 _ z rfl)
      | some d0 =>
        have q := e1 d0 rfl
        rw [z] at q
        cases q
        exact nd _ rfl
    refine flds_at T hk ls hs xL nx ys vs (Nat.succ.inj hl) (fun y' hy => no y' (List.mem_cons_of_mem _ hy)) (fun p hp => mv p (List.mem_cons_of_mem _ hp)) H1 (by simp only [List.length_cons]; omega) (ns_but hL fun o e => k1 _ o xL dL e) d1L (in_but X nx nd k1) nd1
      fun h' tk d' k2 s2 e2 z2 w2 H2 => hq h' tk d' (fun b o hb hd e => ?_) (fun dd z y0 => ?_) (fun dd z => e2 dd (e1 dd z)) (fun _ z => ?_) (fun z => by cases z) ?_
    · refine k2 b o hb (fun z => ?_) (k1 b o hb hd e)
      cases d with
      | none => exact absurd (s1 b z.symm rfl) (Nat.not_le.mpr (Heap.lt_size e))
      | some dd =>
        have q := e1 dd rfl
        rw [← z] at q
        exact hd q
    · cases hd1 : d1 with
      | none => exact absurd hd1 z1
      | some dd1 =>
        have q := e2 dd1 hd1
        rw [z] at q
        cases q
        exact s1 dd hd1 y0
    · cases hd1 : d1 with
      | none => exact z1 hd1
      | some dd1 =>
        have q := e2 dd1 hd1
        rw [z] at q
        cases q
    · have e : (((y :: ys).map (·.1)).zip (v :: vs)).reverse ++ r = ((ys.map (·.1)).zip vs).reverse ++ ((y.1, v) :: r) := by
        simp
      rw [e]
      exact H2
/-- __init__ of an error class: what it leaves at the new exception x -/
theorem init_run (T : Txt P K C fI qual st fs) (F : Form st fs) {s : Shared} {t0 : Addr} {us : List Value} {mg mb : Str → Option Value} {R : Result → Shared → Prop} (hl : us.length = fs.length) (hf : fs.length ≤ 900)
    (X : K.In s.heap) (lim : s.heap.NoLimit) (hx : s.heap.get? x = some (HandSPX.excO C t0)) (nx : K.lookup x = none) (hroom : A.depth < recursionLimit)
    (G : s.heap.Ns mainGlobals mg) (hm : mg "super" = none) (B : s.heap.Ns builtinsNs mb) (hb : mb "super" = some (.type "super"))
    (hxg : x ≠ mainGlobals) (hxb : x ≠ builtinsNs)
    (hq : ∀ h' tk d, (∀ b o, b ≠ x → s.heap.get? b = some o → h'.get? b = some o) → (∀ dd, d = some dd → s.heap.objs.size ≤ dd) → (fs ≠ [] → d ≠ none) → (fs = [] → d = none) → Half h' x C d ((fs.zip us).reverse) → R (.ok (.ret .none)) { s with heap := h', toks := tk }) :
    codeAny (model P w) A (.call (.ref fI) ⟨.ref x :: us, []⟩) R s := by
  obtain ⟨a0, a1, kV, doc, pm, ct, an, cda, cc, a2, b0, c0, b1, c1, vs, b2, c2, file, tf, hfn, hcd, hco, hvs, hfile, hce⟩ := T.fn
  obtain ⟨msg, j, p0, p1, p2, p3, p4, p5, p6, qs, hqs, hpos, hbody⟩ := F.body
  obtain ⟨ar, har, har1⟩ := F.head
  have ll := F.lloc
  have nodup := F.nd
  have binds_loc : ∀ y ∈ (("self" : Str) :: fs).zip (.ref x :: us), (L2.defScope st).names.lookup y.1 = some .local := fun y hy => ll _ (List.of_mem_zip (a := y.1) (b := y.2) hy).1
  refine ks_codeAny_call_defAt (fd := ksFn "__init__" qual (L2.defArgs st) (L2.defBody st) (L2.defScope st) .none kV doc pm an (.ref cda) ct cc) hroom (X _ _ hfn) rfl lim (codeRec_of X hcd) rfl (F.bind s (.ref x :: us) qual kV doc pm ct (.ref cda) an cc (by simp [hl])) F.nocell binds_loc (fun h₁ hns k₁ => ?_) F.co F.gen F.kind
  generalize hm1 : (fun y : Str => ((("self" : Str) :: fs).zip (Value.ref x :: us)).reverse.lookup y) = m1 at hns
  have look : ∀ {ks : List Str} {zs : List Value}, ks.Nodup → ∀ p ∈ ks.zip zs, (ks.zip zs).reverse.lookup p.1 = some p.2 := by
    intro ks zs nd p hp
    have nd2 : (((ks.zip zs).reverse).map (·.1)).Nodup := by
      rw [List.map_reverse]
      refine (List.reverse_perm _).nodup_iff.mpr ?_
      exact zip_nodup ks zs nd
    have hp2 : p ∈ (ks.zip zs).reverse := List.mem_reverse.mpr hp
    exact lookup_mem nd2 hp2
  have hself : m1 "self" = some (.ref x) := by
    rw [← hm1]
    exact look nodup (("self" : Str), Value.ref x) (List.mem_cons_self ..)
  have hX1 : K.In h₁ := X.keeps k₁
  show _root_.PySem.wpAt (model P w) _ (.func (L2.defBody st) (ksEnv qual (L2.defScope st) s.heap.objs.size fI (.ref cda) cc)) (execs (L2.defBody st) (ksEnv qual (L2.defScope st) s.heap.objs.size fI (.ref cda) cc)) _ _ _
  rw [hbody]
  have xL : s.heap.objs.size ≠ x := Nat.ne_of_gt (Heap.lt_size hx)
  refine ks_wpAt_execs_cons (sup_at (p6 := p6) T hfn hco hvs hfile hce har (by rw [har1]; exact hself) (by rw [har1]; exact ll _ (List.mem_cons_self ..)) F.kind F.lsup F.lcls hX1 hns (k₁ _ _ hx) (ns_but G fun o e => k₁ _ o e) hm (ns_but B fun o e => k₁ _ o e) hb hpos fun h2 tk2 t1 k2 e2 => ?_)
  have neC : ∀ b o, b ≠ x → s.heap.get? b = some o → h2.get? b = some o := fun b o hb e => k2 b o hb (k₁ b o e)
  refine wpAt_of_wpAny ?_
  show wpAny _ _ (execs ((fs.zip qs).map fun y => fldSt y.1 y.2.1 y.2.2.1 y.2.2.2.1 y.2.2.2.2) _) _ _ _
  have hmap : (fs.zip qs).map (·.1) = fs := List.map_fst_zip (by omega)
  refine flds_at (env := ksEnv qual (L2.defScope st) s.heap.objs.size fI (.ref cda) cc) (m := m1) (x := x) (d := none) (r := []) T.oc F.kind (ll _ (List.mem_cons_self ..)) hself xL nx (fs.zip qs) us (by rw [List.length_zip]; omega) (fun y hy => ?_) (fun p hp => ?_) ⟨⟨t1, e2⟩, rfl⟩ (by rw [List.length_zip]; simp; omega)
    (ns_but hns fun o e => k2 _ o xL e) (by intro z; cases z) (fun a o e => ?_) (fun dd z => by cases z) fun h3 tk3 d k3 s3 _ z3 w3 H3 => hq h3 tk3 d (fun b o hb e => k3 b o hb (by intro z; cases z) (neC b o hb e)) (fun dd z => ?_) (fun z => z3 ?_) (fun z => w3 ?_) ?_
  · have hy1 : y.1 ∈ fs := (List.of_mem_zip (a := y.1) (b := y.2) hy).1
    exact ⟨T.noN _ hy1, ll _ (List.mem_cons_of_mem _ hy1), F.dbg _ (List.mem_cons_of_mem _ hy1)⟩
  · rw [hmap] at hp
    rw [← hm1]
    exact look nodup p (List.mem_cons_of_mem _ hp)
  · exact neC a o (fun z => by rw [z, nx] at e; cases e) (X a o e)
  · have q := s3 dd z rfl
    have q2 : s.heap.objs.size < h2.objs.size := by
      obtain ⟨oL, esL, epL, hoL, _⟩ := id hns
      exact Heap.lt_size (k2 _ _ xL hoL)
    exact Nat.le_of_lt (Nat.lt_of_lt_of_le q2 q)
  · intro e
    cases fs with
    | nil => exact z rfl
    | cons f fs =>
      cases qs with
      | nil => cases hqs
      | cons q qs => cases e
  · rw [z]; rfl
  · rw [hmap, List.append_nil] at H3
    exact H3
end
end Er
namespace Er
open PySem PySem.W PySem.Calls PyProof.Rows
section
variable {P : Program} {w : World} {A : Around} {E : Value → Shared → Prop} {K : Frag} {C fI x : Addr} {qual : Str} {st : Stmt} {fs : List Str}
/-- C(..), C an error class -/
theorem made (T : Txt P K C fI qual st fs) (FM : Form st fs) {s : Shared} {us : List Value} {mg mb : Str → Option Value} {R : Result → Shared → Prop} (hl : us.length = fs.length) (hf : fs.length ≤ 900)
    (X : K.In s.heap) (lim : s.heap.NoLimit) (hroom : A.depth + 1 < recursionLimit) (G : s.heap.Ns mainGlobals mg) (hm : mg "super" = none) (B : s.heap.Ns builtinsNs mb) (hb : mb "super" = some (.type "super"))
    (hq : ∀ h' tk e d, (∀ b o, s.heap.get? b = some o → h'.get? b = some o) → s.heap.objs.size ≤ e → (∀ dd, d = some dd → s.heap.objs.size ≤ dd) → (fs ≠ [] → d ≠ none) → (fs = [] → d = none) → Half h' e C d ((fs.zip us).reverse) → R (.ok (.ret (.ref e))) { s with heap := h', toks := tk }) :
    codeAny (model P w) A (.call (.ref C) ⟨us, []⟩) R s := by
  obtain ⟨nm, q, N, bs, bm, sn, sub, ab, col, dd, k0, k1, k2, k3, k5, hC, hbm⟩ := T.oc.cls
  obtain ⟨hp, g, dr, tk, os⟩ := s
  have k : ∀ b o, hp.get? b = some o → ((hp.push (kdv_tup us)).push (HandSPX.excO C hp.objs.size)).get? b = some o := fun b o e => Heap.get?_push_of_some _ (Heap.get?_push_of_some _ e)
  have hget : ((hp.push (kdv_tup us)).push (HandSPX.excO C hp.objs.size)).get? (hp.objs.size + 1) = some (HandSPX.excO C hp.objs.size) := by heap_get
  have far : ∀ {a : Addr} {o : Obj}, hp.get? a = some o → hp.objs.size + 1 ≠ a := fun {a o} e => Nat.ne_of_gt (Nat.lt_succ_of_lt (Heap.lt_size e))
  have hus : us.length ≤ sizeLine := by rw [sizeLine_eq]; omega
  have gl : hp.objs.size + 1 ≠ mainGlobals := by
    obtain ⟨oL, esL, epL, hoL, _⟩ := id G
    exact far hoL
  have bl : hp.objs.size + 1 ≠ builtinsNs := by
    obtain ⟨oL, esL, epL, hoL, _⟩ := id B
    exact far hoL
  have sz : ((hp.push (kdv_tup us)).push (HandSPX.excO C hp.objs.size)).objs.size = hp.objs.size + 1 + 1 := by rw [Heap.size_push, Heap.size_push]
  refine HandSPX.call_own F.excBase_ValueError (fun Y => HandSPX.refsVE_contains Y bm hbm) (X _ _ hC) (looks_findIn X T.iC) (fun self => bind_fn X self T.tI) hus ?_
  refine init_run (s := ⟨(hp.push (kdv_tup us)).push (HandSPX.excO C hp.objs.size), g, dr, tk, os⟩) T FM hl hf (X.keeps k) (lim.keeps k) hget (free_of X (Nat.le_succ _)) hroom (ns_but G fun o e => k _ o e) hm (ns_but B fun o e => k _ o e) hb gl bl fun h' tk' d k' s' z' w' H' => ?_
  refine ⟨rfl, hq h' tk' (hp.objs.size + 1) d (fun b o e => k' b o (Ne.symm (far e)) (k b o e)) (Nat.le_succ _) (fun dd z => ?_) z' w' H'⟩
  have q := s' dd z
  have q2 : ((hp.push (kdv_tup us)).push (HandSPX.excO C hp.objs.size)).objs.size ≤ dd := q
  rw [sz] at q2
  exact Nat.le_trans (Nat.le_trans (Nat.le_succ _) (Nat.le_succ _)) q2
end
end Er

namespace L2
open PySem PySem.Spec PyProof.Rows
theorem relO_ns : ∀ {fs : List Str} {vs : List V} {us : List Value} (r : Vals vs us) (r0 : List (Str × V)) (s0 : List (Str × Value)), (∀ f, RelO (r0.lookup f) (Er.nsOf s0 f)) →
    ∀ f, RelO (((fs.zip vs).reverse ++ r0).lookup f) (Er.nsOf ((fs.zip us).reverse ++ s0) f)
  | [], _, _, _, r0, s0, h, f => h f
  | k :: fs, [], [], _, r0, s0, h, f => h f
  | k :: fs, x :: xs, y :: ys, .cons r rs, r0, s0, h, f => by
    have e1 : ((k :: fs).zip (x :: xs)).reverse ++ r0 = ((fs.zip xs).reverse ++ ((k, x) :: r0)) := by simp
    have e2 : ((k :: fs).zip (y :: ys)).reverse ++ s0 = ((fs.zip ys).reverse ++ ((k, y) :: s0)) := by simp
    rw [e1, e2]
    exact relO_ns rs _ _ (relO_put r h) f
/-- C(e, ..), C an error class with the fields fs -/
def tMkE (C : Addr) (fs : List Str) (ta : TA) : St → Hp → XK → Prop := fun σ H Q => ta σ H fun vs H1 => vs.length = fs.length ∧ (fs = [] → Q (.ref C) none H1) ∧ (fs ≠ [] → ∀ d, H1 d = none → Q (.ref C) (some d) (upd H1 d (.xd (fs.zip vs).reverse)))
section
variable {X : Cx} {C fI : Addr} {qual x : Str} {st : Stmt} {fs : List Str} {e : Expr} {es : List Expr} {ta : TA} {p pos : Pos} {k : Nat}
theorem mk_err (T : Er.Txt X.prog X.K C fI qual st fs) (F : Er.Form st fs) (hf : fs.length ≤ 900) (hs : X.mg "super" = none) (hr : Room k X.A) {pins : List (Addr × Obj)} {s1 : Shared} {σ : St} {H1 : Hp} {Q : XK} {us : List Value} {vs : List V}
    (I1 : Inv X pins σ H1 s1) (r1 : Vals vs us) (hl : vs.length = fs.length) (q0 : fs = [] → Q (.ref C) none H1) (q1 : fs ≠ [] → ∀ d, H1 d = none → Q (.ref C) (some d) (upd H1 d (.xd (fs.zip vs).reverse))) :
    wpAny (model X.prog X.w) X.A (call (.ref C) us) (MkP X pins σ Q) X.xe s1 := by
  have hlim := I1.nolimit
  have hul : us.length = fs.length := by rw [← r1.length]; exact hl
  obtain ⟨mb, hB, hbt⟩ := I1.ok.mod.blt
  have G : s1.heap.Ns mainGlobals X.mg := I1.ok.mod.glob.keeps I1.bk
  have B : s1.heap.Ns builtinsNs mb := hB.keeps I1.bk
  have hb : mb "super" = some (.type "super") := (hbt _ (by decide +kernel)).trans (by decide +kernel)
  have XI := I1.kIn
  have hok := I1.hok
  obtain ⟨hp, g, dr, tk, os⟩ := s1
  refine wpAny_call (Er.made T F hul hf XI hlim (by have := hr.dp; omega) G hs B hb fun h' tk' e d kp ne nd z w Hh => ?_)
  show MkP X pins σ Q (.ref e) ⟨h', g, dr, tk', os⟩
  obtain ⟨⟨t1, hoe⟩, hd⟩ := Hh
  obtain ⟨G', g1, g2⟩ := restrict h' fun b => decide (b ≠ e)
  have gk : ∀ b, b ≠ e → G'.get? b = h'.get? b := fun b hb => g1 b (decide_eq_true hb)
  have ge : G'.get? e = none := g2 e (by simp)
  have old : ∀ b o, hp.get? b = some o → G'.get? b = some o := fun b o q => (gk b (Nat.ne_of_lt (Nat.lt_of_lt_of_le (Heap.lt_size q) ne))).trans (kp b o q)
  have back : ∀ b o, G'.get? b = some o → h'.get? b = some o := fun b o q => by
    by_cases hb : b = e
    · rw [hb, ge] at q; cases q
    · exact (gk b hb).symm.trans q
  have He : H1 e = none := hok.fresh ne
  cases d with
  | none =>
    have hfs : fs = [] := by
      cases fs with
      | nil => rfl
      | cons f fs => exact absurd rfl (z (by intro y; cases y))
    have J : Inv X pins σ H1 ⟨G', g, dr, tk', os⟩ := I1.kept (t' := tk') old
    exact ⟨e, _, _, ⟨G', g, dr, tk', os⟩, H1, .ref C, none, rfl, J, back, ge, hoe, ⟨rfl, rfl⟩, rfl, rfl, He, rfl, I1.bare, raises_own T.oc.exC T.oc.tyC, q0 hfs⟩
  | some dd =>
    obtain ⟨dne, hns⟩ : dd ≠ e ∧ h'.Ns1 dd (Er.nsOf (fs.zip us).reverse) := hd
    have hfs : fs ≠ [] := fun y => by cases w y
    have rel : ∀ f, RelO (((fs.zip vs).reverse).lookup f) (Er.nsOf ((fs.zip us).reverse) f) := fun f => by
      have q := relO_ns (fs := fs) r1 [] [] (fun _ => True.intro) f
      rw [List.append_nil, List.append_nil] at q
      exact q
    have ob : ObjOk X.prog X.w (upd H1 dd (.xd (fs.zip vs).reverse)) G' dd (.xd (fs.zip vs).reverse) := ⟨_, hns.at (fun o q => (gk dd dne).trans q), rel⟩
    have J : Inv X pins σ (upd H1 dd (.xd (fs.zip vs).reverse)) ⟨G', g, dr, tk', os⟩ := I1.laid (t' := tk') old (nd dd rfl) ob
    refine ⟨e, _, _, ⟨G', g, dr, tk', os⟩, _, .ref C, some dd, rfl, J, back, ge, hoe, ⟨rfl, rfl⟩, rfl, rfl, ?_, rfl, I1.bare, raises_own T.oc.exC T.oc.tyC, q1 hfs dd (hok.fresh (nd dd rfl))⟩
    rw [upd_ne (Ne.symm dne)]
    exact He
/-- with arguments -/
theorem pmk_err (T : Er.Txt X.prog X.K C fI qual st fs) (F : Er.Form st fs) (hf : fs.length ≤ 900) (gC : X.mg x = some (.ref C)) (hs : X.mg "super" = none) (hr : Room k X.A) (ha : PA X (e :: es) ta) (hg : Gl X x := by rfl) (hdb : (x == ("__debug__" : Str)) = false := by decide)
    (he : starEach (e :: es) X.env = (false, eval e X.env) :: starEach es X.env := by rfl) (hpl : (backTo pos (starEach es X.env)).any (·.1) = false := by rfl) : PMk X (.Call (.Name x p) (e :: es) [] pos) (tMkE C fs ta) := by
  intro pins s σ H Q I h
  refine wpAny_Call_Name_kw (ld_glob I hg gC (PySem.W.callWith_K (h₀ := X.base) I.ok.mod.kin T.oc.kC (thn (ha.run pos pins s σ H _ I h) fun us s1 hh => ?_) he hpl) hdb)
  obtain ⟨vs, H1, I1, r1, hl, q0, q1⟩ := hh
  exact ⟨I1.kIn, mk_err T F hf hs hr I1 r1 hl q0 q1⟩
/-- without arguments -/
theorem pmk_err0 (T : Er.Txt X.prog X.K C fI qual st []) (F : Er.Form st []) (gC : X.mg x = some (.ref C)) (hs : X.mg "super" = none) (hr : Room k X.A) (hg : Gl X x := by rfl) (hdb : (x == ("__debug__" : Str)) = false := by decide) :
    PMk X (.Call (.Name x p) [] [] pos) (tMkE C [] tNil) := by
  intro pins s σ H Q I h
  obtain ⟨hl, q0, q1⟩ : _ ∧ _ ∧ _ := h
  exact wpAny_Call_Name_kw (ld_glob I hg gC (PySem.W.callWith_K0 I.kIn T.oc.kC (mk_err T F (Nat.zero_le _) hs hr I .nil hl q0 q1)) hdb)
end
end L2
/-! try with several except clauses, each with a name or without. -/
namespace L2
open PySem PySem.Spec PyProof.Rows
/-- a clause: the class that it names, the slot of its name, its suite -/
structure Cl where
  c : Value
  i : Option Nat
  ts : Addr → Value → Option Addr → TS
/-- the end of a suite whose name is slot i's -/
def offE (i : Option Nat) (D : Ends) : Ends := match i with
  | none => D
  | some i => { nx := fun σ H => D.nx (σ.set i none) H, rt := D.rt, bk := fun σ H => D.bk (σ.set i none) H, ct := fun σ H => D.ct (σ.set i none) H }
def onS (i : Option Nat) (a : Addr) (σ : St) : St := match i with
  | none => σ
  | some i => σ.set i (some (.ref a))
/-- what the clauses wish of an exception of the body -/
def wCl (K : PySem.W.Frag) (Wout : WX) (D : Ends) : List Cl → WX
  | [] => Wout
  | q :: r => fun cls d σ H => ∃ b, PySem.W.exmOne K cls q.c = some b ∧ (b = true → ∀ a, H a = none → q.ts a cls d (offE q.i D) (onS q.i a σ) H) ∧ (b = false → wCl K Wout D r cls d σ H)
/-- how a clause of the text is read -/
structure ClOk (X : Cx) (x : Str) (nm : Option Str) (body : List Stmt) (q : Cl) : Prop where
  names : Names X x q.c
  slot : match q.i, nm with
    | none, none => True
    | some i, some n => X.N[i]? = some n ∧ X.env.kindOf n = some .local
    | _, _ => False
  suite : ∀ (a : Addr) (oe : Obj) (cls : Value) (d : Option Addr) (pn : List (Addr × Obj)), Zc cls d oe → (∃ vs, oe.data = .fields vs) → PSs (X.suite a ((a, oe) :: pn)) body (q.ts a cls d)
inductive ClsOk (X : Cx) : List ExceptHandler → List Cl → Prop
  | nil : ClsOk X [] []
  | cons {x : Str} {nm : Option Str} {b₀ : Stmt} {su : List Stmt} {np p : Pos} {hs : List ExceptHandler} {q : Cl} {l : List Cl} (h : ClOk X x nm (b₀ :: su) q) (r : ClsOk X hs l) :
      ClsOk X (.ExceptHandler (some (.Name x np)) nm (b₀ :: su) p :: hs) (q :: l)

/-- the exception a in the air, caught and looked at in the state s with the heap h -/
structure Air (X : Cx) (pins : List (Addr × Obj)) (σ : St) (H : Hp) (a : Addr) (cls : Value) (d : Option Addr) (B : Heap) (sI s : Shared) (h : Heap) : Prop where
  fly : HandSPX.FlyingZ B (X.env :: X.outer) a (Zc cls d) h
  inv : Inv X pins σ H sI
  hid : ∀ b o, sI.heap.get? b = some o → b ∉ frs X.stack → B.get? b = some o
  upto : sI.heap.UpToSlots h
  new : H a = none
  sys : s.os = sI.os
  gens : AllBare s.gens
section
variable {X : Cx} {pins : List (Addr × Obj)} {σ : St} {H : Hp} {a : Addr} {cls : Value} {d : Option Addr} {B : Heap} {sI s : Shared} {h : Heap}
theorem Air.here (y : Air X pins σ H a cls d B sI s h) : Inv X pins σ H { s with heap := h } := y.inv.landed (s' := { s with heap := h }) y.hid y.fly.1 y.upto y.sys y.gens
theorem Air.obj (y : Air X pins σ H a cls d B sI s h) (hf : X.env.frame = some X.env.locals) :
    ∃ oe vs, h.get? a = some oe ∧ Zc cls d oe ∧ oe.data = .fields vs ∧ Inv (X.suite a ((a, oe) :: (X.pn ++ pins))) [] σ H { s with heap := h } := by
  obtain ⟨oe, vs, e1, e2, e3⟩ := y.fly.there
  have no : a ∉ frs (X.env :: X.outer) := fun hm => by
    obtain ⟨_, o', e', nf⟩ := y.fly.2.2.1.mem hm
    rw [e1] at e'
    cases e'
    exact nf _ e3
  refine ⟨oe, vs, e1, e2, e3, y.here.suite e1 e3 y.new (fun z => no (List.mem_filterMap.mpr ⟨X.env, List.mem_cons_self, by rw [hf, z]⟩)) fun hm => ?_⟩
  obtain ⟨e, he, q⟩ := List.mem_filterMap.mp hm
  exact no (List.mem_filterMap.mpr ⟨e, List.mem_cons_of_mem _ he, q⟩)
/-- the suite's run, seen from the try -/
theorem suite_back {pins' : List (Addr × Obj)} {D : Ends} {oe : Obj} {f : Flow} {s6 : Shared} (ok : X.Ok) (z : SP (X.suite a ((a, oe) :: (X.pn ++ pins))) pins' D f s6) : SP X pins D f s6 := by
  cases f with
  | next => obtain ⟨σ6, H6, S6, q6⟩ := z; exact ⟨σ6, H6, S6.unsuite ok, q6⟩
  | brk => obtain ⟨σ6, H6, S6, q6⟩ := z; exact ⟨σ6, H6, S6.unsuite ok, q6⟩
  | cont => obtain ⟨σ6, H6, S6, q6⟩ := z; exact ⟨σ6, H6, S6.unsuite ok, q6⟩
  | ret u => obtain ⟨v6, σ6, H6, S6, r6, q6⟩ := z; exact ⟨v6, σ6, H6, S6.unsuite ok, r6, q6⟩
/-- no clause is left -/
theorem none_left {Wout : WX} {D : Ends} (hs : X.stack = X.env :: X.outer) (hf : X.env.frame = some X.env.locals) (tk : Takes X Wout) (y : Air X pins σ H a cls d B sI s h) (w : Wout cls d σ H) :
    wpAny (model X.prog X.w) X.A (handleBy (.ref a) X.env []) (SP X pins D) X.xe { s with heap := h } := by
  refine wpAny_handleBy_nil ?_
  obtain ⟨_, _, _, oe, vs, T, oT, ts', he, _, hd, h1, _⟩ := id y.fly
  have last : wpAny (model X.prog X.w) X.A (setFlight (.ref a) X.env.frame) (fun _ s4 => wpAny (model X.prog X.w) X.A (throw (.ref a) : Sem Flow) (SP X pins D) X.xe s4) X.xe { s with heap := h } := by
    rw [hf]
    exact HandSPX.setFlight_upZ y.fly fun h4 up4 st4 => wpAny_throw (tk _ _ ⟨a, B, sI, pins, σ, H, cls, d, rfl, y.inv, y.hid, y.upto.trans st4, .inr (.inr (by rw [hs]; exact up4)), y.new, y.sys, y.gens, w⟩)
  unfold PySem.passOn; refine wpAny_bind (wpAny_field he hd h1 ?_)
  rw [if_neg (by simp : ¬ ((Value.ref T == Value.none) = true))]
  first | exact wpAny_bind (wpAny_pure (wpAny_bind last)) | exact wpAny_bind last
/-- the clauses, one after the other -/
theorem by_clauses {Wout : WX} {D : Ends} (hs : X.stack = X.env :: X.outer) (hf : X.env.frame = some X.env.locals) (hN : X.N.Nodup) (tk : Takes X Wout) (y : Air X pins σ H a cls d B sI s h) {hds : List ExceptHandler} {l : List Cl} (hk : ClsOk X hds l) (w : wCl X.K Wout D l cls d σ H) :
    wpAny (model X.prog X.w) X.A (handleBy (.ref a) X.env hds) (SP X pins D) X.xe { s with heap := h } := by
  induction hk with
  | nil => exact none_left hs hf tk y w
  | @cons x nm b₀ su np p hds2 q l2 hq r ih =>
    obtain ⟨b, hb, yes, no⟩ := w
    obtain ⟨oe, vs, e1, e2, e3, S⟩ := y.obj hf
    have LT : PySem.W.Looks (model X.prog X.w) h (typeOf (.ref a)) cls := fun A Q E s k q => wpAny_typeOf_ref (k _ _ e1) (by rw [e2.1]; exact q)
    refine wpAny_handleBy_cons (codeAny_handlers_test ?_) (by intro q; cases q)
    have asked : ∀ {Q : Value → Shared → Prop} {E : Value → Shared → Prop}, Q q.c { s with heap := h } → wpAny (model X.prog X.w) (X.A.mark (some (.ref a))) (eval (.Name x np) X.env) Q E { s with heap := h } := fun {Q E} z => by
      obtain ⟨hg, hdbg, hm | ⟨hm, hv, hnn⟩⟩ := hq.names
      · exact ld_glob S hg hm z hdbg
      · exact ld_blt S hg hm hv z hnn hdbg
    refine asked ((PySem.W.exm_one (M := model X.prog X.w) y.here.kIn LT hb).here ?_)
    cases b with
    | false => exact ih (no rfl)
    | true =>
      have slot := hq.slot
      have go := yes rfl a y.new
      have su_run := fun oe' pn => hq.suite a oe' cls d pn
      obtain ⟨c, i, ts⟩ := q
      cases i with
      | none =>
        cases nm with
        | some n => exact slot.elim
        | none =>
          refine codeAny_handlers_suite (HandSPX.lands_againZ y.fly fun h4 fl4 up4 => ?_)
          have y4 : Air X pins σ H a cls d B sI s h4 := ⟨fl4, y.inv, y.hid, y.upto.trans up4, y.new, y.sys, y.gens⟩
          obtain ⟨oe4, vs4, f1, f2, f3, S4⟩ := y4.obj hf
          exact wpAny_mono ((su_run oe4 (X.pn ++ pins) f2 ⟨_, f3⟩).run [] _ _ H _ S4 go) (fun f s6 z => suite_back y.inv.ok z) fun _ _ z => False.elim z
      | some i =>
        cases nm with
        | none => exact slot.elim
        | some n =>
          obtain ⟨hi, hln⟩ : X.N[i]? = some n ∧ X.env.kindOf n = some .local := slot
          refine codeAny_handlers_suite_as (HandSPX.lands_againZ y.fly fun h4 fl4 up4 => ?_)
          have y4 : Air X pins σ H a cls d B sI s h4 := ⟨fl4, y.inv, y.hid, y.upto.trans up4, y.new, y.sys, y.gens⟩
          obtain ⟨oe4, vs4, f1, f2, f3, S4⟩ := y4.obj hf
          refine store_ok (X := X.suite a ((a, oe4) :: (X.pn ++ pins))) (v := .ref a) S4 hN hi (.inl hln) rfl (fun s5 S5 => ?_) (.inr hln)
          refine wpAny_mono ((su_run oe4 (X.pn ++ pins) f2 ⟨_, f3⟩).run [] s5 _ H _ S5 go) (fun f s6 z => ?_) fun _ _ z => False.elim z
          have gone : ∀ {σ6 : St} {H6 : Hp} {Q : Shared → Prop}, Inv X pins σ6 H6 s6 → (∀ s7, Inv X pins (σ6.set i none) H6 s7 → Q s7) → wpAny (model X.prog X.w) X.A (do bindName X.env n .none; unbindBehindTheSuite X.env n p) (fun _ s7 => Q s7) X.xe s6 :=
            fun {σ6 H6 Q} S6 hq => gone_ok S6 hN hi hln hq
          have back := suite_back y.inv.ok z
          cases f with
          | next => obtain ⟨σ6, H6, S6, q6⟩ := back; exact gone S6 fun s7 J7 => ⟨_, _, J7, q6⟩
          | brk => obtain ⟨σ6, H6, S6, q6⟩ := back; exact gone S6 fun s7 J7 => ⟨_, _, J7, q6⟩
          | cont => obtain ⟨σ6, H6, S6, q6⟩ := back; exact gone S6 fun s7 J7 => ⟨_, _, J7, q6⟩
          | ret u => obtain ⟨v6, σ6, H6, S6, r6, q6⟩ := back; exact gone S6 fun s7 J7 => ⟨_, _, _, J7, r6, q6⟩
end
section
variable {X : Cx} {body : List Stmt} {h₀ : ExceptHandler} {hds : List ExceptHandler} {l : List Cl} {pos : Pos} {tb : WX → TS} {Wout : WX}
/-- THE RULE -/
theorem ps_try_cls (hs : X.stack = X.env :: X.outer) (hf : X.env.frame = some X.env.locals) (hN : X.N.Nodup) (tk : Takes X Wout)
    (hb : ∀ (W : WX) (pn : List (Addr × Obj)) (xe : Value → Shared → Prop), Takes (X.tr pn xe) W → PassesOwn (model X.prog X.w) X.A X.env xe → PSs (X.tr pn xe) body (tb W)) (hh : ClsOk X (h₀ :: hds) l) :
    PS X (.Try body (h₀ :: hds) [] [] pos) (fun D σ H => tb (wCl X.K Wout D l) D σ H) := by
  refine ⟨fun pins s σ H D I t => wpAny_Try_except ?_⟩
  have ok := I.ok
  have fr : X.A.frames = some (X.env :: X.outer) := by rw [ok.frames, hs]
  refine wpAny_mono ((hb (wCl X.K Wout D l) (X.pn ++ pins) (fun e s₁ => wpAny (model X.prog X.w) X.A (noteFrame e X.env) (fun _ s₂ => wpAny (model X.prog X.w) X.A (setFlight e none) (fun _ s₃ =>
    wpAny (model X.prog X.w) X.A (handleBy e X.env (h₀ :: hds)) (SP X pins D) X.xe s₃) X.xe s₂) X.xe s₁) (fun u s' up => ?_) PassesOwn.looking).run [] s σ H D (I.toTry _) t) (fun f s1 z => ?_) fun _ _ z => z
  · obtain ⟨a, B, sI, pins', σ', H', cls, d, rfl, J', nb, upto, sky, na, os, ag, w⟩ := up
    have J : Inv X pins σ' H' sI := J'.ofTry ok
    have sky' : Sky B (X.env :: X.outer) a (Zc cls d) X.env.locals s'.heap := hs ▸ sky
    exact Sky.land Zc.steady fr hf sky' fun h3 fl3 up3 => by_clauses hs hf hN tk ⟨fl3, J, nb, upto.trans up3, na, os, ag⟩ hh w
  · cases f with
    | next => obtain ⟨σ', H', J', q⟩ := z; exact wpAny_execs_nil ⟨σ', H', J'.ofTry ok, q⟩
    | brk => obtain ⟨σ', H', J', q⟩ := z; exact ⟨σ', H', J'.ofTry ok, q⟩
    | cont => obtain ⟨σ', H', J', q⟩ := z; exact ⟨σ', H', J'.ofTry ok, q⟩
    | ret u => obtain ⟨v, σ', H', J', r, q⟩ := z; exact ⟨v, σ', H', J'.ofTry ok, r, q⟩
end
end L2
namespace L2
open PySem PySem.W PySem.Calls PyProof.Rows
/-! An object is made where a try stands around it: what its `__init__` raises meets the wish of the clauses at the slots as they are then. -/
section
variable {X : Cx} {WC : CXT} {lev : Nat} {fI cl : Addr} {fdI : FuncData} {names : List Str} {spI : Sp} {dv : List V} {du : List Value} {wish : St → XK}
/-- the class called -/
theorem made_in_try {pins : List (Addr × Obj)} {σ : St} {H : Hp} {s : Shared} {Q : VK} {us : List Value} {vs : List V} (mk : Mk X.K cl fI) (ok : FnOk X.prog X.w X.K X.mg X.base WC lev fI fdI names spI) (rm : Room (lev + 1) X.A)
    (bd : Binds X.K fdI names du) (dr : Vals dv du) (ps : PassesAt WC X σ (wish σ)) (I : Inv X pins σ H s) (r : Vals vs us)
    (go : ∀ x dx, H x = none → H dx = none → dx ≠ x → spI (.ref x :: (vs ++ dv)) (upd (upd H dx (.own x)) x (.ins cl dx [])) (fun v G => v = .non ∧ Q (.ref x) G) (wish σ)) :
    wpAny (model X.prog X.w) X.A (call (.ref cl) us) (EP X pins σ Q) X.xe s := by
  have top1 : H (s.heap.objs.size + 1) = none := I.hok.fresh (Nat.le_succ _)
  have top0 : H s.heap.objs.size = none := I.hok.fresh (Nat.le_refl _)
  have z := go _ _ top1 top0 (Nat.ne_of_lt (Nat.lt_succ_self _))
  have J := Inv.made (C := cl) I
  have all : Vals (V.ref (s.heap.objs.size + 1) :: (vs ++ dv)) (Value.ref (s.heap.objs.size + 1) :: (us ++ du)) := .cons rfl (r.append dr)
  have many : (Value.ref (s.heap.objs.size + 1) :: us ++ du).length = names.length := (all.length.symm.trans (ok.len _ _ _ _ z) : _)
  have bound := bd _ (Value.ref (s.heap.objs.size + 1) :: us) J.kIn many
  have init := ok.run _ X.stack _ _ ⟨Value.ref (s.heap.objs.size + 1) :: us, []⟩ _ _ _ (wish σ) (rm.make cl us []) (J.env0.make cl us []) bound all z
  refine wpAny_call (make_map (f := fI) I.kIn mk.makes mk.init (beq_iff_eq.mp mk.fn) (codeAny_mono init fun out s' got => ?_))
  match out, got with
  | .error e, got => exact ps pins _ _ e s' J got
  | .ok (.ret u), got =>
    obtain ⟨v, G, J', rel, no, q⟩ := J.after got
    cases no
    exact ⟨rel, V.ref (s.heap.objs.size + 1), G, J', rfl, q⟩
  | .ok .next, got => exact got.elim
  | .ok .brk, got => exact got.elim
  | .ok .cont, got => exact got.elim
def tMakeS (cl : Addr) (spI : Sp) (dv : List V) (wish : St → XK) (ta : TA) : TE := fun σ H Q => ta σ H fun vs G => ∀ x dx, G x = none → G dx = none → dx ≠ x → spI (.ref x :: (vs ++ dv)) (upd (upd G dx (.own x)) x (.ins cl dx [])) (fun v G' => v = .non ∧ Q (.ref x) G') (wish σ)
variable {nm : Str} {p pos : Pos} {e : Expr} {es : List Expr} {ta : TA}
theorem pe_makeS (mk : Mk X.K cl fI) (ok : FnOk X.prog X.w X.K X.mg X.base WC lev fI fdI names spI) (rm : Room (lev + 1) X.A) (gl : Gl X nm) (at_ : X.mg nm = some (.ref cl)) (bd : Binds X.K fdI names du) (dr : Vals dv du)
    (ps : ∀ σ, PassesAt WC X σ (wish σ)) (args : PA X (e :: es) ta) (nd : (nm == ("__debug__" : Str)) = false := by decide)
    (one : starEach (e :: es) X.env = (false, eval e X.env) :: starEach es X.env := by rfl) (few : (backTo pos (starEach es X.env)).any (·.1) = false := by rfl) : PE X (.Call (.Name nm p) (e :: es) [] pos) (tMakeS cl spI dv wish ta) :=
  ⟨fun pins s σ H Q I want => wpAny_Call_Name_kw (ld_glob I gl at_
    (PySem.W.callWith_K (h₀ := X.base) I.ok.mod.kin mk.kp (thn (args.run pos pins s σ H _ I want) fun us s1 ⟨vs, G, J, rel, q⟩ => ⟨J.kIn, made_in_try mk ok rm bd dr (ps σ) J rel q⟩) one few) nd)⟩
end
end L2
namespace L2
open PySem PySem.Spec PyProof.Rows
/-- a statement and the rest of its block, joined by what holds between them -/
def tJoin (t u : TS) : TS := fun D σ H => ∃ J : St → Hp → Prop, t { D with nx := J } σ H ∧ ∀ τ G, J τ G → u D τ G
theorem pss_join {X : Cx} {st : Stmt} {rest : List Stmt} {t u : TS} (a : PS X st t) (b : PSs X rest u) : PSs X (st :: rest) (tJoin t u) :=
  ⟨fun pins s σ H D I ⟨J, hj, hu⟩ => wpAny_execs_cons (thn (a.run pins s σ H { D with nx := J } I hj) fun f s1 q => match f, q with
    | .next, ⟨τ, G, I', q'⟩ => b.run pins s1 τ G D I' (hu τ G q')
    | .ret _, q => q
    | .brk, q => q
    | .cont, q => q)⟩
end L2
namespace IdL
open PySem L2
abbrev sBag : Stmt := top 116
abbrev sDraw : Stmt := top 117
/-! ### the bag: a dict of five -/
def bagL (l : Addr) (i d c f : Int) : List (Key × V) := [(.inr "cells", .ref l), (.inr "at", .int i), (.inr "digits", .int d), (.inr "count", .int c), (.inr "fold", .int f)]
section
variable {l : Addr} {i d c f z : Int}
theorem bag_cells : valV (bagL l i d c f) (.inr "cells" : Key) = some (.ref l) := by kernel_rfl
theorem bag_at : valV (bagL l i d c f) (.inr "at" : Key) = some (.int i) := by kernel_rfl
theorem bag_digits : valV (bagL l i d c f) (.inr "digits" : Key) = some (.int d) := by kernel_rfl
theorem bag_count : valV (bagL l i d c f) (.inr "count" : Key) = some (.int c) := by kernel_rfl
theorem bag_fold : valV (bagL l i d c f) (.inr "fold" : Key) = some (.int f) := by kernel_rfl
theorem put_at : putK (bagL l i d c f) (.inr "at" : Key) (.int z) = bagL l z d c f := by kernel_rfl
theorem put_digits : putK (bagL l i d c f) (.inr "digits" : Key) (.int z) = bagL l i z c f := by kernel_rfl
theorem put_count : putK (bagL l i d c f) (.inr "count" : Key) (.int z) = bagL l i d z f := by kernel_rfl
theorem put_fold : putK (bagL l i d c f) (.inr "fold" : Key) (.int z) = bagL l i d c z := by kernel_rfl
theorem merge_bag : mergeK [] (bagL l i d c f) = bagL l i d c f := by kernel_rfl
end
/-- a bag stands at b: its cells a list of ints at l; the place, the digits, the count, the fold in their bounds -/
structure BagAt (H : Hp) (b : Addr) (n : Nat) : Prop where
  ex : ∃ (l : Addr) (ns : List Int) (i d c f : Int), H b = some (.dK (bagL l i d c f)) ∧ H l = some (.lst (ns.map V.int)) ∧ ns.length ≤ 63 ∧ 0 ≤ i ∧ i ≤ ns.length ∧ 0 ≤ d ∧ 0 ≤ c ∧ c ≤ n ∧ 0 ≤ f ∧ f < 2147483587
/-- all that stood stands, but the bag -/
def SameBut (b : Addr) (H H' : Hp) : Prop := ∀ a o, a ≠ b → H a = some o → H' a = some o
theorem BagAt.other {H H' : Hp} {b : Addr} {n : Nat} (h : BagAt H b n) (s : ∀ a o, H a = some o → H' a = some o) : BagAt H' b n := by
  obtain ⟨l, ns, i, d, c, f, h1, h2, r⟩ := h.ex
  exact ⟨l, ns, i, d, c, f, s _ _ h1, s _ _ h2, r⟩
theorem BagAt.more {H : Hp} {b : Addr} {n m : Nat} (h : BagAt H b n) (s : n ≤ m) : BagAt H b m := by
  obtain ⟨l, ns, i, d, c, f, h1, h2, h3, h4, h5, h6, h7, h8, r⟩ := h.ex
  exact ⟨l, ns, i, d, c, f, h1, h2, h3, h4, h5, h6, h7, by omega, r⟩

theorem same_new {H : Hp} {p : Addr} {o : HO} (hp : H p = none) : Same H (upd H p o) := fun c u e => by
  rw [upd_ne (ne_of_none e hp)]
  exact e
structure Glob (mg : Str → Option Value) : Prop where
  len : mg "len" = none
  int : mg "int" = none
  list : mg "list" = none
/-! ### the promises -/
def spBag (K : PySem.W.Frag) : Sp := fun vs H Q _ => ∃ (a : Addr) (ns : List Int), vs = [.ref a] ∧ SqL K H a (ns.map V.int) ∧ ns.length ≤ 63 ∧
  ∀ (b : Addr) (H' : Hp), H b = none → Same H H' → BagAt H' b 0 → Q (.ref b) H'
/-- a drawn number below the limit -/
def spDraw : Sp := fun vs H Q _ => ∃ (b : Addr) (n : Nat) (m : Int), vs = [.ref b, .int m] ∧ BagAt H b n ∧ n < 1000000000 ∧ 1 ≤ m ∧ m ≤ 1000000000000000 ∧
  ∀ (r : Int) (H' : Hp), 0 ≤ r → r < m → SameBut b H H' → BagAt H' b (n + 1) → Q (.int r) H'
section
variable {P : Program} {w : World} {K : PySem.W.Frag} {mg : Str → Option Value} {base : Heap}
theorem scB : FnScope ["_law_script", "_law_fold", "_law_cell"] ["_law_script"] (defScope sBag) := ⟨rfl, rfl, rfl, by decide +kernel, rfl, by decide +kernel, by decide +kernel⟩
theorem ok_bag {f : Addr} {fd : FuncData} (F : Fun K "_law_bag" "_law_bag" sBag f fd) (T : Glob mg) : FnOk P w K mg base CX0 1 f fd ["_law_script"] (spBag K) := by
  refine F.ok scB (fun vs H Q E h => ?_) (fun cdv A outer s H vs Q E hr h => ?_)
  · obtain ⟨a, ns, rfl, _⟩ := h
    rfl
  · obtain ⟨a, ns, rfl, hS, hlen, k⟩ := h
    refine ⟨_, pss_cons (ps_set (i := 1) scB.nd rfl (.inl rfl) pe_int)
      (pss_cons (ps_for PassesOwn.never rfl (pi_list (pv 0)) (pg_name (i := 2) scB.nd rfl (.inl rfl))
        (pss_one (ps_set (i := 1) scB.nd rfl (.inl rfl) (pe_op op_mod (pe_callTy call_int1 (by rfl) T.int (by decide +kernel) (pa_cons (pe_op op_add (pe_op op_mul (pv 1) pe_int) (pv 2)) pa_nil)) pe_int))))
      (pss_one (ps_ret (pe_disp (pps_cons pe_str (pe_callTy call_list_of (by rfl) T.list (by decide +kernel) (pa_cons (pv 0) pa_nil)) (pps_cons pe_str pe_int (pps_cons pe_str pe_int (pps_cons pe_str pe_int (pps_cons pe_str (pv 1) pps_nil)))))
        (by rfl) (by rfl) (fun z => by cases z) (by decide))))), ?_⟩
    refine ⟨_, rfl, a, rfl, ⟨_, hS⟩, for_list (K := K) (a := a) (xs := ns.map V.int) (fun i σ H2 => ∃ (f : Int) (v : Option V), σ = [some (.ref a), some (.int f), v] ∧ H2 = H ∧ 0 ≤ f ∧ f < 1000000007) ⟨0, none, rfl, rfl, by decide, by decide⟩ (fun i σ H2 _ ⟨_, _, _, e, _⟩ => by rw [e]; exact hS) ?_ ?_⟩
    · rintro i y σ H2 hi ⟨f, v, rfl, rfl, h1, h2⟩
      obtain ⟨z, rfl⟩ : ∃ z, y = V.int z := by
        rw [List.getElem?_map] at hi
        cases e : ns[i]? with
        | none => rw [e] at hi; cases hi
        | some z => rw [e] at hi; exact ⟨z, (Option.some.inj hi).symm⟩
      refine ⟨_, rfl, _, _, rfl, rfl, .inl ⟨by omega, by omega⟩, _, rfl, _, _, rfl, rfl, .inl ⟨_, rfl, _, _, rfl, rfl, (by show (0 : Int) < 1000000007; decide), _, some (.int z), rfl, rfl, Int.emod_nonneg _ (by decide), Int.emod_lt_of_pos _ (by decide)⟩⟩
    · rintro σ H2 ⟨f, v, rfl, rfl, h1, h2⟩
      intro p hp
      refine ⟨_, rfl, a, _, rfl, .inl ((same_new hp).seq hS), fun l hl => ?_⟩
      have lp : p ≠ l := fun z => by rw [z, upd_same] at hl; cases hl
      have Hl : H2 l = none := by rw [← hl]; exact (upd_ne (Ne.symm lp)).symm
      refine ⟨_, rfl, ?_⟩
      refine ⟨by rw [upd_ne lp, upd_same], bagL l 0 0 0 f, rfl, (by show 5 ≤ 15; decide), ?_⟩
      rw [merge_bag]
      refine k p _ hp (fun c o e => ?_) ⟨l, ns, 0, 0, 0, f, upd_same, by rw [upd_ne (Ne.symm lp), upd_same], hlen, by decide, by omega, by decide, by decide, by decide, h1, by omega⟩
      rw [upd_ne (ne_of_none e hp), upd_ne (ne_of_none e Hl), upd_ne (ne_of_none e hp)]
      exact e
theorem scD : FnScope ["_law_bag_here", "_law_limit", "_law_cell", "_law_digit", "_law_base", "_law_found"] ["_law_bag_here", "_law_limit"] (defScope sDraw) := ⟨rfl, rfl, rfl, by decide +kernel, rfl, by decide +kernel, by decide +kernel⟩
section
variable {H : Hp} {b l : Addr} {i d c f : Int} (hb : H b = some (.dK (bagL l i d c f)))
theorem get_cells (hb : H b = some (.dK (bagL l i d c f))) : DGet H b (.str "cells") (some (.ref l)) := by have q := DGet.k (k := (Sum.inr "cells" : Key)) hb; rw [bag_cells] at q; exact q
theorem get_at (hb : H b = some (.dK (bagL l i d c f))) : DGet H b (.str "at") (some (.int i)) := by have q := DGet.k (k := (Sum.inr "at" : Key)) hb; rw [bag_at] at q; exact q
theorem get_digits (hb : H b = some (.dK (bagL l i d c f))) : DGet H b (.str "digits") (some (.int d)) := by have q := DGet.k (k := (Sum.inr "digits" : Key)) hb; rw [bag_digits] at q; exact q
theorem get_count (hb : H b = some (.dK (bagL l i d c f))) : DGet H b (.str "count") (some (.int c)) := by have q := DGet.k (k := (Sum.inr "count" : Key)) hb; rw [bag_count] at q; exact q
theorem get_fold (hb : H b = some (.dK (bagL l i d c f))) : DGet H b (.str "fold") (some (.int f)) := by have q := DGet.k (k := (Sum.inr "fold" : Key)) hb; rw [bag_fold] at q; exact q
end
theorem small15 {l : Addr} {i d c f : Int} : (bagL l i d c f).length < sizeLine := by rw [sizeLine_eq]; exact (by decide : 5 < 16777216)
theorem upd_bag {H : Hp} {b : Addr} {o o' : HO} : upd (upd H b o) b o' = upd H b o' := by
  funext c
  by_cases h : c = b
  · rw [h, upd_same, upd_same]
  · rw [upd_ne h, upd_ne h, upd_ne h]
theorem pow17 {x : Int} (h : 0 ≤ x) : 0 ≤ x ^ 17 := Int.pow_nonneg h
theorem pow3 {x : Int} (h : 0 ≤ x) : 0 ≤ x ^ 3 := Int.pow_nonneg h
/-- the end of a draw without digits: from the fold and the count -/
def foundOf (f c : Int) : Int := (f + c * 7933 + 61) ^ 17 % 2305843009213693951 / 128
theorem found_lo (f c : Int) : 0 ≤ foundOf f c := Int.ediv_nonneg (Int.emod_nonneg _ (by decide)) (by decide)
theorem found_hi (f c : Int) : foundOf f c < 18014398509481985 := by
  have h := Int.emod_lt_of_pos ((f + c * 7933 + 61) ^ 17) (show (0 : Int) < 2305843009213693951 by decide)
  unfold foundOf
  omega
theorem ok_draw {f : Addr} {fd : FuncData} (F : Fun K "_law_draw" "_law_draw" sDraw f fd) (T : Glob mg) : FnOk P w K mg base CX0 1 f fd ["_law_bag_here", "_law_limit"] spDraw := by
  refine F.ok scD (fun vs H Q E h => ?_) (fun cdv A outer s H vs Q E hr h => ?_)
  · obtain ⟨b, n, m, rfl, _⟩ := h
    rfl
  · obtain ⟨b, n, m, rfl, B, hn, hm1, hm2, k⟩ := h
    have hu := hu_of hr
    obtain ⟨l, ns, i, d, c, fo, hb, hl, hlen, hi0, hi1, hd0, hc0, hc1, hf0, hf1⟩ := B.ex
    have nbl : b ≠ l := ne_of hb hl (by intro z; cases z)
    refine ⟨_, pss_cons (ps_dput hu (pv 0) pe_str (pe_op op_add (pe_dget hu (pv 0) pe_str (fun _ _ => rfl)) pe_int) rfl)
      (pss_join (ps_if (PW.pt (pw_and (pt_cmpR op_eq (pe_dget hu (pv 0) pe_str (fun _ _ => rfl)) pe_int (nomark _)) (pw_and1 (pt_cmpR op_lt (pe_dget hu (pv 0) pe_str (fun _ _ => rfl)) (pe_callB call_len (by rfl) T.len PySem.boot_len (pa_cons (pe_dget hu (pv 0) pe_str (fun _ _ => rfl)) pa_nil)) (nomark _)))))
        (pss_cons (ps_set (i := 2) scD.nd rfl (.inl rfl) (pe_ix ix_list (pe_dget hu (pv 0) pe_str (fun _ _ => rfl)) (pe_dget hu (pv 0) pe_str (fun _ _ => rfl)) (fun _ _ => rfl)))
        (pss_cons (ps_dput hu (pv 0) pe_str (pe_op op_add (pe_dget hu (pv 0) pe_str (fun _ _ => rfl)) pe_int) rfl)
        (pss_one (ps_if (pt_cmpR op_ge (pv 2) (pe_op op_pow pe_int pe_int) (nomark _))
          (pss_one (ps_dput hu (pv 0) pe_str (pe_op op_sub (pv 2) (pe_op op_pow pe_int pe_int)) rfl))
          (pss_one (ps_dput hu (pv 0) pe_str (pe_op op_mod (pe_callTy call_int1 (by rfl) T.int (by decide +kernel) (pa_cons (pe_op op_add (pe_op op_mul (pe_dget hu (pv 0) pe_str (fun _ _ => rfl)) pe_int) (pv 2)) pa_nil)) pe_int) rfl)))))) pss_nil)
      (pss_cons (ps_if (pt_cmpR op_gt (pe_dget hu (pv 0) pe_str (fun _ _ => rfl)) pe_int (nomark _))
        (pss_cons (ps_set (i := 3) scD.nd rfl (.inl rfl) (pe_op op_modN (pe_callTy call_int1 (by rfl) T.int (by decide +kernel) (pa_cons (pe_dget hu (pv 0) pe_str (fun _ _ => rfl)) pa_nil)) (pv 1)))
        (pss_cons (ps_dput hu (pv 0) pe_str (pe_op op_fdivW (pe_dget hu (pv 0) pe_str (fun _ _ => rfl)) (pv 1)) rfl)
        (pss_one (ps_ret (pv 3))))) pss_nil)
      (pss_cons (ps_set (i := 4) scD.nd rfl (.inl rfl) (pe_op op_add (pe_op op_add (pe_dget hu (pv 0) pe_str (fun _ _ => rfl)) (pe_op op_mul (pe_dget hu (pv 0) pe_str (fun _ _ => rfl)) pe_int)) pe_int))
      (pss_cons (ps_set (i := 5) scD.nd rfl (.inl rfl) (pe_op op_fdiv (pe_callTy call_int1 (by rfl) T.int (by decide +kernel) (pa_cons (pe_op op_mod (pe_op op_pow (pv 4) pe_int) pe_int) pa_nil)) pe_int))
      (pss_one (ps_ret (pe_ifExp (pt_cmpR op_lt (pv 1) (pe_op op_pow pe_int pe_int) (nomark _)) (pe_op op_modN (pv 5) (pv 1))
        (pe_op op_modN (pe_callTy call_int1 (by rfl) T.int (by decide +kernel) (pa_cons (pe_op op_pow (pv 5) pe_int) pa_nil)) (pv 1))))))))), ?_⟩
    -- count
    refine ⟨_, rfl, b, _, rfl, get_count hb, _, _, rfl, rfl, _, rfl, b, _, rfl, DPut.k (k := (Sum.inr "count" : Key)) hb small15, ?_⟩
    rw [put_count]
    generalize hc' : c + 1 = c'
    generalize hH1 : upd H b (.dK (bagL l i d c' fo)) = H1
    have hb1 : H1 b = some (.dK (bagL l i d c' fo)) := by rw [← hH1, upd_same]
    have s1 : SameBut b H H1 := fun a o na e => by rw [← hH1, upd_ne na]; exact e
    have up1 : ∀ o, upd H1 b o = upd H b o := fun o => by rw [← hH1, upd_bag]
    -- behind the if: the bag again, with other digits, place, fold
    refine ⟨fun σ H2 => ∃ (i d fo : Int) (v : Option V), σ = [some (.ref b), some (.int m), v, none, none, none] ∧ H2 b = some (.dK (bagL l i d c' fo)) ∧ SameBut b H H2 ∧ 0 ≤ i ∧ i ≤ ns.length ∧ 0 ≤ d ∧ 0 ≤ fo ∧ fo < 2147483587, ?_, ?_⟩
    · refine ⟨_, rfl, b, _, rfl, get_digits hb1, rfl, _, rfl, ?_⟩
      refine ite2 (fun e0 => ?_) (fun _ => ⟨i, d, fo, none, rfl, hb1, s1, hi0, hi1, hd0, hf0, hf1⟩)
      refine ⟨_, rfl, b, _, rfl, get_at hb1, _, rfl, b, _, rfl, get_cells hb1, _, ns.length, rfl, .inl ⟨_, SqL.of (s1 l _ nbl.symm hl), (by simp)⟩, _, _, rfl, rfl, _, rfl, ?_⟩
      refine ite2 (fun e1 => ?_) (fun _ => ⟨i, d, fo, none, rfl, hb1, s1, hi0, hi1, hd0, hf0, hf1⟩)
      have e1' : i < ns.length := of_decide_eq_true e1
      obtain ⟨a, rfl⟩ : ∃ a : Nat, i = a := ⟨i.toNat, by omega⟩
      have ha : a < ns.length := by omega
      obtain ⟨z, hz⟩ : ∃ z, ns[a]? = some z := ⟨ns[a], List.getElem?_eq_getElem ha⟩
      refine ⟨_, rfl, b, _, rfl, get_cells hb1, _, rfl, b, _, rfl, get_at hb1, l, _, _, .int z, rfl, rfl, SqL.of (s1 l _ nbl.symm hl), atI_nat (by rw [List.getElem?_map, hz]; rfl), ?_⟩
      refine ⟨_, rfl, b, _, rfl, get_at hb1, _, _, rfl, rfl, _, rfl, b, _, rfl, DPut.k (k := (Sum.inr "at" : Key)) hb1 small15, ?_⟩
      rw [put_at]
      generalize hH2 : upd H1 b (.dK (bagL l ((a : Int) + 1) d c' fo)) = H2
      have hb2 : H2 b = some (.dK (bagL l ((a : Int) + 1) d c' fo)) := by rw [← hH2, upd_same]
      have s2 : SameBut b H H2 := fun x o na e => by rw [← hH2, upd_ne na]; exact s1 x o na e
      refine ⟨_, rfl, _, _, rfl, rfl, ⟨by decide, by decide, by decide⟩, _, _, rfl, rfl, _, rfl, ?_⟩
      refine ite2 (fun g => ?_) (fun g => ?_)
      · have g' : (10 : Int) ^ (18 : Int).toNat ≤ z := of_decide_eq_true g
        refine ⟨_, rfl, _, _, rfl, rfl, ⟨by decide, by decide, by decide⟩, _, _, rfl, rfl, _, rfl, b, _, rfl, DPut.k (k := (Sum.inr "digits" : Key)) hb2 small15, ?_⟩
        rw [put_digits]
        refine ⟨(a : Int) + 1, z - (10 : Int) ^ (18 : Int).toNat, fo, _, rfl, upd_same, fun x o na e => ?_, by omega, by omega, by omega, hf0, hf1⟩
        rw [upd_ne na]
        exact s2 x o na e
      · refine ⟨_, rfl, b, _, rfl, get_fold hb2, _, _, rfl, rfl, .inl ⟨by omega, by omega⟩, _, rfl, _, _, rfl, rfl, .inl ⟨_, rfl, _, _, rfl, rfl, (by show (0 : Int) < 2147483587; decide), _, rfl, b, _, rfl, DPut.k (k := (Sum.inr "fold" : Key)) hb2 small15, ?_⟩⟩
        rw [put_fold]
        refine ⟨(a : Int) + 1, d, _, _, rfl, upd_same, fun x o na e => ?_, by omega, by omega, hd0, Int.emod_nonneg _ (by decide), Int.emod_lt_of_pos _ (by decide)⟩
        rw [upd_ne na]
        exact s2 x o na e
    · rintro σ H2 ⟨i, d, fo, v, rfl, hb2, s2, hi0, hi1, hd0, hf0, hf1⟩
      have hl2 : H2 l = some (.lst (ns.map V.int)) := s2 l _ nbl.symm hl
      refine ⟨_, rfl, b, _, rfl, get_digits hb2, _, _, rfl, rfl, _, rfl, ?_⟩
      refine ite2 (fun g => ?_) (fun g => ?_)
      · have g' : 0 < d := of_decide_eq_true g
        have hm : m.fmod 1 = m.fmod 1 := rfl
        refine ⟨_, rfl, b, _, rfl, get_digits hb2, .inl ⟨_, rfl, _, rfl, _, _, rfl, rfl, (by show m ≠ 0; omega), ?_⟩⟩
        refine ⟨_, rfl, b, _, rfl, get_digits hb2, _, rfl, _, _, rfl, rfl, wide_div (b := 60) (by omega) (by omega) (by decide) (by decide), _, rfl, b, _, rfl, DPut.k (k := (Sum.inr "digits" : Key)) hb2 small15, ?_⟩
        rw [put_digits]
        refine ⟨_, rfl, ?_⟩
        show Q (.int (d.fmod m)) _
        rw [Int.fmod_eq_emod_of_nonneg d (by omega)]
        refine k _ _ (Int.emod_nonneg _ (by omega)) (Int.emod_lt_of_pos _ (by omega)) (fun x o na e => ?_) ⟨l, ns, i, d / m, c', fo, upd_same, ?_, hlen, hi0, hi1, Int.ediv_nonneg hd0 (by omega), by omega, by omega, hf0, hf1⟩
        · rw [upd_ne na]
          exact s2 x o na e
        · rw [upd_ne nbl.symm]
          exact hl2
      · have fin : ∀ x : Int, 0 ≤ x → Q (.int (x.fmod m)) H2 := fun x hx => by
          rw [Int.fmod_eq_emod_of_nonneg x (by omega)]
          exact k _ _ (Int.emod_nonneg _ (by omega)) (Int.emod_lt_of_pos _ (by omega)) s2 ⟨l, ns, i, d, c', fo, hb2, hl2, hlen, hi0, hi1, hd0, by omega, by omega, hf0, hf1⟩
        refine ⟨_, rfl, b, _, rfl, get_fold hb2, _, rfl, b, _, rfl, get_count hb2, _, _, rfl, rfl, .inl ⟨by omega, by omega⟩, _, _, rfl, rfl, _, _, rfl, rfl, ?_⟩
        refine ⟨_, rfl, _, _, rfl, rfl, ⟨by decide, by decide, by omega⟩, _, _, rfl, rfl, (by show (0 : Int) < 2305843009213693951; decide), .inl ⟨_, rfl, _, _, rfl, rfl, ⟨by decide, by decide⟩, ?_⟩⟩
        have h0 := found_lo fo c'
        have h1 := found_hi fo c'
        refine ⟨_, rfl, _, _, rfl, rfl, ⟨by decide, by decide, by decide⟩, _, _, rfl, rfl, _, rfl, ?_⟩
        refine ite2 (fun g => ?_) (fun g => ?_)
        · exact ⟨_, rfl, _, rfl, _, _, rfl, rfl, (by show m ≠ 0; omega), fin (foundOf fo c') h0⟩
        · exact ⟨_, rfl, _, _, rfl, rfl, ⟨by decide, by decide, (show (foundOf fo c').natAbs < 2 ^ 64 by omega)⟩, .inl ⟨_, rfl, _, rfl, _, _, rfl, rfl, (by show m ≠ 0; omega), fin ((foundOf fo c') ^ 3) (pow3 h0)⟩⟩
end
end IdL
namespace IdL
open PySem L2 TL
/-! ### the words of the lines, as plain functions -/
def isNum (z : Str) : Bool := Txt.isdigit z && (decide (z.length ≤ 30) && (decide (z = "0") || !Txt.startswith z "0"))
def numV (z : Str) : Int := (NumText.digitsVal (tl z) : Nat)
/-- a plain text: signs of ASCII alone -/
def Asc (z : Str) : Prop := ∀ c ∈ tl z, c < 128
theorem and_t {a b : Bool} (h : (a && b) = true) : a = true ∧ b = true := Bool.and_eq_true_iff.mp h
def termV (z : Str) (ns : List Str) : V := if isNum z = true then .int (numV z) else if z ∈ ns then .str z else .non
theorem dec_str (a b : Str) : decide (V.str a = V.str b) = decide (a = b) := by
  by_cases h : a = b
  · subst h
    rw [decide_eq_true rfl, decide_eq_true rfl]
  · rw [decide_eq_false h, decide_eq_false fun z => h (V.str.inj z)]
theorem in_strs (z : Str) : ∀ ns : List Str, inV (.str z) (ns.map V.str) = decide (z ∈ ns)
  | [] => rfl
  | n :: ns => by
    show (eqV (.str n) (.str z) || inV (.str z) (ns.map V.str)) = _
    rw [in_strs z ns]
    show ((n == z) || decide (z ∈ ns)) = _
    by_cases h : n = z
    · subst h
      rw [beq_self_eq_true, decide_eq_true (List.mem_cons_self ..)]; rfl
    · rw [beq_eq_false_iff_ne.mpr h, Bool.false_or]
      by_cases k : z ∈ ns
      · rw [decide_eq_true k, decide_eq_true (List.mem_cons_of_mem _ k)]
      · rw [decide_eq_false k, decide_eq_false fun y => by
          rcases List.mem_cons.mp y with e | e
          · exact h e.symm
          · exact k e]
theorem flat_strs : ∀ ns : List Str, (ns.map V.str).all flatV = true
  | [] => rfl
  | n :: ns => by rw [List.map_cons, List.all_cons, flat_strs ns]; rfl
theorem dig_asc {c : Nat} (h : c < 128) : Unicode.isDigit c = (decide (48 ≤ c) && decide (c ≤ 57)) := by
  have e := PySem.W.os_isdigit h
  simpa [Txt.isdigit, Str.length] using e
theorem isdigit_asc {z : Str} (a : Asc z) (h : Txt.isdigit z = true) : NumText.AllDigits (tl z) ∧ tl z ≠ [] := by
  unfold Txt.isdigit at h
  obtain ⟨h1, h2⟩ := and_t h
  have l := of_decide_eq_true h1
  rw [len_tl] at l
  refine ⟨fun c hc => ?_, fun e => by rw [e] at l; exact absurd l (by decide)⟩
  rw [Array.all_eq_true'] at h2
  have := h2 c (Array.mem_toList_iff.mp hc)
  rw [dig_asc (a c hc), Bool.and_eq_true, decide_eq_true_eq, decide_eq_true_eq] at this
  exact this
theorem num_int {z : Str} (a : Asc z) (h : isNum z = true) : intText? z = some (numV z) ∧ z.length ≤ 640 := by
  obtain ⟨h1, h2⟩ := and_t h
  obtain ⟨h2, h3⟩ := and_t h2
  obtain ⟨d, ne⟩ := isdigit_asc a h1
  have l := of_decide_eq_true h2
  exact ⟨intText_digits d ne (by omega), by omega⟩
structure Glo (mg : Str → Option Value) : Prop where
  len : mg "len" = none
  int : mg "int" = none
  fig : ∃ t, mg "MOST_FIGURES" = some (.int 30 t)
  trm : ∃ t, mg "MOST_TERMS" = some (.int 4 t)
  prt : ∃ t, mg "MOST_PARTS" = some (.int 4 t)
  enum : mg "enumerate" = none
  tuple : mg "tuple" = none
abbrev sNum : Stmt := top 59
theorem scNum : FnScope ["word"] ["word"] (defScope sNum) := ⟨rfl, rfl, rfl, by decide +kernel, rfl, by decide +kernel, by decide +kernel⟩
def spNum : Sp := fun vs H Q _ => ∃ z : Str, vs = [.str z] ∧ z.length ≤ sizeLine ∧ Q (.bl (isNum z)) H
section
variable {P : Program} {w : World} {K : PySem.W.Frag} {mg : Str → Option Value} {base : Heap}
theorem ok_num {f : Addr} {fd : FuncData} (F : Fun K "is_number" "is_number" sNum f fd) (T : Glo mg) : FnOk P w K mg base CX0 1 f fd ["word"] spNum := by
  obtain ⟨t, tF⟩ := T.fig
  refine F.ok scNum (fun vs H Q E h => ?_) (fun cdv A outer s H vs Q E hr h => ?_)
  · obtain ⟨z, rfl, _⟩ := h
    rfl
  · obtain ⟨z, rfl, hz, k⟩ := h
    refine ⟨_, pss_cons (ps_if (PW.pt (pw_or (pt_not (pt_val (pe_m0 PySem.F.slot_str_isdigit PySem.F.type_str_isdigit mt_isdigit (pv 0)))) (pw_or1 (pt_cmpR op_gt (pe_callB call_len_str (by rfl) T.len PySem.boot_len (pa_cons (pv 0) pa_nil)) (pe_glob rfl tF (v := .int 30) ⟨_, rfl⟩) (nomark _))))) (pss_one (ps_ret pe_bl)) pss_nil)
      (pss_one (ps_ret (pe_or (pe_cmpR op_eq (pv 0) pe_str (nomark _)) (pe_one (pe_not (pe_m1 PySem.F.slot_str_startswith PySem.F.type_str_startswith mt_startswith (pv 0) pe_str)))))), ?_⟩
    refine ⟨_, rfl, ⟨_, rfl⟩, z, rfl, rfl, trivial, _, rfl, ?_⟩
    have hk : ∀ b, isNum z = b → Q (.bl b) H := fun b e => e ▸ k
    unfold isNum at hk
    cases e1 : Txt.isdigit z
    · refine iteT (iteT ?_)
      exact hk false (by rw [e1]; rfl)
    · refine iteF ?_
      refine ⟨_, rfl, z, rfl, hz, _, _, rfl, rfl, _, rfl, ?_⟩
      refine ite2 (fun g => ?_) (fun g => ?_)
      · have g' : (30 : Int) < z.length := of_decide_eq_true g
        exact hk false (by rw [e1, decide_eq_false (show ¬ z.length ≤ 30 by omega)]; rfl)
      · have g' : ¬ (30 : Int) < z.length := fun y => g (decide_eq_true y)
        refine ⟨_, rfl, rfl, _, rfl, ?_⟩
        rw [e1, decide_eq_true (show z.length ≤ 30 by omega)] at hk
        refine ite2 (fun g0 => ?_) (fun g0 => ?_)
        · rw [dec_str] at g0
          exact hk true (by rw [g0]; rfl)
        · rw [dec_str] at g0
          rw [Bool.eq_false_iff.mpr g0] at hk
          exact ⟨_, rfl, ⟨_, rfl⟩, z, _, rfl, rfl, _, rfl, hk _ rfl⟩
abbrev sTerm : Stmt := top 60
theorem scTerm : FnScope ["word", "names"] ["word", "names"] (defScope sTerm) := ⟨rfl, rfl, rfl, by decide +kernel, rfl, by decide +kernel, by decide +kernel⟩
def spTerm (K : PySem.W.Frag) : Sp := fun vs H Q _ => ∃ (z : Str) (p : Addr) (ns : List Str), vs = [.str z, .ref p] ∧ z.length ≤ sizeLine ∧ Asc z ∧ SqT K H p (ns.map V.str) ∧ Q (termV z ns) H
structure FNum (K : PySem.W.Frag) (mg : Str → Option Value) (f : Addr) (d : FuncData) : Prop where
  u : Fun K "is_number" "is_number" sNum f d
  b : Binds K d ["word"] []
  g : mg "is_number" = some (.ref f)
theorem ok_term {f fN : Addr} {fd dN : FuncData} (F : Fun K "read_term" "read_term" sTerm f fd) (N : FNum K mg fN dN) (T : Glo mg) : FnOk P w K mg base CX0 2 f fd ["word", "names"] (spTerm K) := by
  have ON : FnOk P w K mg base CX0 1 fN dN ["word"] spNum := ok_num N.u T
  refine F.ok scTerm (fun vs H Q E h => ?_) (fun cdv A outer s H vs Q E hr h => ?_)
  · obtain ⟨z, p, ns, rfl, _⟩ := h
    rfl
  · obtain ⟨z, p, ns, rfl, hz, az, hS, k⟩ := h
    refine ⟨_, pss_cons (ps_if (pt_val (pe_call ON hr rfl N.g N.u.kp N.b .nil pass0 (pa_cons (pv 0) pa_nil))) (pss_one (ps_ret (pe_callTy call_int_str (by rfl) T.int (by decide +kernel) (pa_cons (pv 0) pa_nil)))) pss_nil)
      (pss_cons (ps_if (pt_cmpR op_in_seq (pv 0) (pv 1) (by rfl)) (pss_one (ps_ret (pv 0))) pss_nil)
      (pss_one (ps_ret pe_non))), ?_⟩
    unfold termV at k
    refine ⟨_, rfl, z, rfl, hz, _, rfl, ?_⟩
    refine ite2 (fun g => ?_) (fun g => ?_)
    · rw [if_pos g] at k
      obtain ⟨h1, h2⟩ := num_int az g
      exact ⟨_, rfl, z, _, rfl, h1, h2, k⟩
    · rw [if_neg g] at k
      refine ⟨_, rfl, _, rfl, p, _, rfl, .inr hS, rfl, flat_strs ns, _, rfl, ?_⟩
      rw [in_strs]
      refine ite2 (fun g0 => ?_) (fun g0 => ?_)
      · rw [if_pos (of_decide_eq_true g0)] at k
        exact ⟨_, rfl, k⟩
      · rw [if_neg fun y => g0 (decide_eq_true y)] at k
        exact k
end
end IdL
namespace IdL
open PySem L2 TL
/-! ### what stands as data of tuples alone -/
mutual
inductive TD (K : PySem.W.Frag) (H : Hp) : V → PyData → Prop
  | non : TD K H .non .none
  | bl (b : Bool) : TD K H (.bl b) (.bool b)
  | int (i : Int) : TD K H (.int i) (.int i)
  | str (x : Str) : TD K H (.str x) (.str x)
  | tup {a : Addr} {xs : List V} {ds : List PyData} : SqT K H a xs → TDs K H xs ds → TD K H (.ref a) (.tuple ds)
inductive TDs (K : PySem.W.Frag) (H : Hp) : List V → List PyData → Prop
  | nil : TDs K H [] []
  | cons {v : V} {vs : List V} {d : PyData} {ds : List PyData} : TD K H v d → TDs K H vs ds → TDs K H (v :: vs) (d :: ds)
end
/-- the tuples that stood stand -/
def KeepT (H H' : Hp) : Prop := ∀ a xs, Rd H a (.tup xs) → Rd H' a (.tup xs)
theorem KeepT.refl (H : Hp) : KeepT H H := fun _ _ h => h
theorem KeepT.trans {H H1 H2 : Hp} (a : KeepT H H1) (b : KeepT H1 H2) : KeepT H H2 := fun p xs h => b p xs (a p xs h)
theorem KeepT.of {H H' : Hp} (s : Same H H') : KeepT H H' := fun a xs h => match h with
  | .inl e => .inl (s _ _ e)
  | .inr ⟨o, e⟩ => .inr ⟨o, s _ _ e⟩
theorem KeepT.lst {H : Hp} {p : Addr} {zs : List V} {o : HO} (e : H p = some (.lst zs)) : KeepT H (upd H p o) := fun a xs h => by
  have ne : a ≠ p := fun z => by
    subst z
    rcases h with h | ⟨o, h⟩ <;> rw [e] at h <;> cases h
  rcases h with h | ⟨o, h⟩
  · exact .inl (by rw [upd_ne ne]; exact h)
  · exact .inr ⟨o, by rw [upd_ne ne]; exact h⟩
theorem KeepT.dic {H : Hp} {p : Addr} {zs : List (Key × V)} {o : HO} (e : H p = some (.dK zs)) : KeepT H (upd H p o) := fun a xs h => by
  have ne : a ≠ p := fun z => by
    subst z
    rcases h with h | ⟨o, h⟩ <;> rw [e] at h <;> cases h
  rcases h with h | ⟨o, h⟩
  · exact .inl (by rw [upd_ne ne]; exact h)
  · exact .inr ⟨o, by rw [upd_ne ne]; exact h⟩
theorem KeepT.seq {K : PySem.W.Frag} {H H' : Hp} (k : KeepT H H') {a : Addr} {xs : List V} (h : SqT K H a xs) : SqT K H' a xs := h.imp (k a xs) id
theorem Same.tup {K : PySem.W.Frag} {H H' : Hp} (s : Same H H') {a : Addr} {xs : List V} (h : SqT K H a xs) : SqT K H' a xs := (KeepT.of s).seq h
mutual
theorem TD.keep {K : PySem.W.Frag} {H H' : Hp} (k : KeepT H H') : ∀ {v : V} {d : PyData}, TD K H v d → TD K H' v d
  | _, _, .non => .non
  | _, _, .bl b => .bl b
  | _, _, .int i => .int i
  | _, _, .str x => .str x
  | _, _, .tup h t => .tup (k.seq h) (TDs.keep k t)
theorem TDs.keep {K : PySem.W.Frag} {H H' : Hp} (k : KeepT H H') : ∀ {vs : List V} {ds : List PyData}, TDs K H vs ds → TDs K H' vs ds
  | _, _, .nil => .nil
  | _, _, .cons h t => .cons (TD.keep k h) (TDs.keep k t)
end
mutual
theorem TD.dp {K : PySem.W.Frag} {H : Hp} : ∀ {v : V} {d : PyData}, TD K H v d → Dp K H v d
  | _, _, .non => .non
  | _, _, .bl b => .bl b
  | _, _, .int i => .int i
  | _, _, .str x => .str x
  | _, _, .tup h t => .tup h (TDs.dp t)
theorem TDs.dp {K : PySem.W.Frag} {H : Hp} : ∀ {vs : List V} {ds : List PyData}, TDs K H vs ds → DpAll K H vs ds
  | _, _, .nil => .nil
  | _, _, .cons h t => .cons (TD.dp h) (TDs.dp t)
end
theorem TDs.snoc {K : PySem.W.Frag} {H : Hp} {v : V} {d : PyData} (h : TD K H v d) : ∀ {vs : List V} {ds : List PyData}, TDs K H vs ds → TDs K H (vs ++ [v]) (ds ++ [d])
  | _, _, .nil => .cons h .nil
  | _, _, .cons a t => .cons a (TDs.snoc h t)
theorem TDs.len {K : PySem.W.Frag} {H : Hp} : ∀ {vs : List V} {ds : List PyData}, TDs K H vs ds → vs.length = ds.length
  | _, _, .nil => rfl
  | _, _, .cons _ t => by rw [List.length_cons, List.length_cons, TDs.len t]
theorem dec_i (a b : Int) : decide (V.int a = V.int b) = decide (a = b) := by
  by_cases h : a = b
  · subst h
    rw [decide_eq_true rfl, decide_eq_true rfl]
  · rw [decide_eq_false h, decide_eq_false fun z => h (V.int.inj z)]
theorem iteNN {c A B : Prop} [Decidable c] (hc : ¬ c) (h : A) : if (!decide c) = true then A else B := by
  rw [decide_eq_false hc]
  exact iteT h
theorem iteY {c A B : Prop} [Decidable c] (hc : c) (h : A) : if decide c = true then A else B := by
  rw [decide_eq_true hc]
  exact iteT h
theorem iteN {c A B : Prop} [Decidable c] (hc : ¬ c) (h : B) : if decide c = true then A else B := by
  rw [decide_eq_false hc]
  exact iteF h
/-- both ways lead to what follows, the one by a detour -/
theorem ite_k {c A B : Prop} [Decidable c] (n : B) (h : c → B → A) : if c then A else B := by
  by_cases e : c
  · rw [if_pos e]; exact h e n
  · rw [if_neg e]; exact n
theorem strN {a b : Str} (h : a ≠ b) : ¬ V.str a = V.str b := fun z => h (V.str.inj z)
theorem dt {p : Prop} [Decidable p] (h : decide p = true) : p := of_decide_eq_true h
theorem df {p : Prop} [Decidable p] (h : ¬ decide p = true) : ¬ p := fun z => h (decide_eq_true z)
theorem put_len (kvs : List (Key × V)) (k : Key) (v : V) : (putK kvs k v).length ≤ kvs.length + 1 := by
  unfold putK
  split
  · rw [List.length_map]; omega
  · rw [List.length_append]; exact Nat.le_refl _
/-! ### a sum of terms -/
def termD (z : Str) (ns : List Str) : PyData := if isNum z = true then .int (numV z) else if z ∈ ns then .str z else .none
theorem term_td {K : PySem.W.Frag} {H : Hp} (z : Str) (ns : List Str) : TD K H (termV z ns) (termD z ns) := by
  unfold termV termD
  by_cases h : isNum z = true
  · rw [if_pos h, if_pos h]; exact .int _
  · rw [if_neg h, if_neg h]
    by_cases k : z ∈ ns
    · rw [if_pos k, if_pos k]; exact .str _
    · rw [if_neg k, if_neg k]; exact .non
theorem term_non {z : Str} {ns : List Str} : termV z ns = .non ↔ termD z ns = .none := by
  unfold termV termD
  by_cases h : isNum z = true
  · rw [if_pos h, if_pos h]; exact ⟨(fun y => nomatch y), (fun y => nomatch y)⟩
  · rw [if_neg h, if_neg h]
    by_cases k : z ∈ ns
    · rw [if_pos k, if_pos k]; exact ⟨(fun y => nomatch y), (fun y => nomatch y)⟩
    · rw [if_neg k, if_neg k]; exact ⟨fun _ => rfl, fun _ => rfl⟩
def mSum (ns : List Str) : List Str → Nat → List PyData → List (Key × V) → Int → Option (List PyData)
  | [], _, acc, _, _ => some acc
  | w :: ws, i, acc, met, sg =>
    if i % 2 = 1 then (if w ≠ "+" ∧ w ≠ "-" then none else mSum ns ws (i + 1) acc met (if w = "+" then 1 else -1))
    else if termV w ns = .non ∨ (w ∈ ns ∧ (valV met (.inr w)).isSome = true) then none
    else mSum ns ws (i + 1) (acc ++ [.tuple [.int sg, termD w ns]]) (putK met (.inr w) (.bl true)) sg
theorem mSum_cons (ns : List Str) (w : Str) (ws : List Str) (i : Nat) (acc : List PyData) (met : List (Key × V)) (sg : Int) : mSum ns (w :: ws) i acc met sg = if i % 2 = 1 then (if w ≠ "+" ∧ w ≠ "-" then none else mSum ns ws (i + 1) acc met (if w = "+" then 1 else -1))
    else if termV w ns = .non ∨ (w ∈ ns ∧ (valV met (.inr w)).isSome = true) then none
    else mSum ns ws (i + 1) (acc ++ [.tuple [.int sg, termD w ns]]) (putK met (.inr w) (.bl true)) sg := rfl
def sumD (ws ns : List Str) : PyData := if ws.length % 2 = 0 ∨ 7 < ws.length then .none else match mSum ns ws 0 [] [] 1 with
  | some l => .tuple l
  | none => .none
abbrev sSum : Stmt := top 61
theorem scSum : FnScope ["words", "names", "terms", "met", "sign", "at", "word", "term"] ["words", "names"] (defScope sSum) := ⟨rfl, rfl, rfl, by decide +kernel, rfl, by decide +kernel, by decide +kernel⟩
/-- words that are read: plain, not too many signs -/
structure Plain (ws : List Str) : Prop where
  asc : ∀ z ∈ ws, Asc z
  tot : (ws.map (·.length)).sum + ws.length ≤ 1000000
theorem le_sum : ∀ {l : List Nat} {n : Nat}, n ∈ l → n ≤ l.sum
  | m :: l, n, h => by
    rw [List.sum_cons]
    rcases List.mem_cons.mp h with e | e
    · omega
    · have := le_sum e; omega
theorem Plain.len {ws : List Str} (p : Plain ws) : ∀ z ∈ ws, z.length ≤ sizeLine := fun z h => by
  have := le_sum (List.mem_map_of_mem (f := (·.length)) h)
  have := p.tot
  rw [sizeLine_eq]; omega
theorem Plain.few {ws : List Str} (p : Plain ws) : ws.length ≤ 1000000 := by have := p.tot; omega
theorem Plain.drop {ws : List Str} (p : Plain ws) (k : Nat) : Plain (ws.drop k) := ⟨fun z h => p.asc z (List.mem_of_mem_drop h), by
  have h := p.tot
  rw [← List.take_append_drop k ws, List.map_append, List.sum_append, List.length_append] at h
  omega⟩
theorem Plain.take {ws : List Str} (p : Plain ws) (k : Nat) : Plain (ws.take k) := ⟨fun z h => p.asc z (List.mem_of_mem_take h), by
  have h := p.tot
  rw [← List.take_append_drop k ws, List.map_append, List.sum_append, List.length_append] at h
  omega⟩
def spSum (K : PySem.W.Frag) : Sp := fun vs H Q _ => ∃ (wl pn : Addr) (ws ns : List Str), vs = [.ref wl, .ref pn] ∧ SqL K H wl (ws.map V.str) ∧ SqT K H pn (ns.map V.str) ∧ Plain ws ∧
  ∀ v H', Same H H' → TD K H' v (sumD ws ns) → Q v H'
structure FTerm (K : PySem.W.Frag) (mg : Str → Option Value) (f : Addr) (d : FuncData) : Prop where
  u : Fun K "read_term" "read_term" sTerm f d
  b : Binds K d ["word", "names"] []
  g : mg "read_term" = some (.ref f)
section
variable {P : Program} {w : World} {K : PySem.W.Frag} {mg : Str → Option Value} {base : Heap}
theorem ok_sum {f fN fT : Addr} {fd dN dT : FuncData} (F : Fun K "read_sum" "read_sum" sSum f fd) (N : FNum K mg fN dN) (M : FTerm K mg fT dT) (T : Glo mg) : FnOk P w K mg base CX0 3 f fd ["words", "names"] (spSum K) := by
  have OT : FnOk P w K mg base CX0 2 fT dT ["word", "names"] (spTerm K) := ok_term M.u N T
  obtain ⟨tk, tT⟩ := T.trm
  refine F.ok scSum (fun vs H Q E h => ?_) (fun cdv A outer s H vs Q E hr h => ?_)
  · obtain ⟨wl, pn, ws, ns, rfl, _⟩ := h
    rfl
  · obtain ⟨wl, pn, ws, ns, rfl, hw, hn, pl, k⟩ := h
    have hu := hu_of hr
    refine ⟨_, pss_cons (ps_if (PW.pt (pw_or (pt_cmpR op_eq (pe_op op_mod (pe_callB call_len_seq (by rfl) T.len PySem.boot_len (pa_cons (pv 0) pa_nil)) pe_int) pe_int (nomark _)) (pw_or1 (pt_cmpR op_gt (pe_callB call_len_seq (by rfl) T.len PySem.boot_len (pa_cons (pv 0) pa_nil)) (pe_op op_sub (pe_op op_mul pe_int (pe_glob rfl tT (v := .int 4) ⟨_, rfl⟩)) pe_int) (nomark _))))) (pss_one (ps_ret pe_non)) pss_nil)
      (pss_cons (ps_set (i := 2) scSum.nd rfl (.inl rfl) (pe_lst pa_nil))
      (pss_cons (ps_set (i := 3) scSum.nd rfl (.inl rfl) pe_dnewK)
      (pss_cons (ps_set (i := 4) scSum.nd rfl (.inl rfl) pe_int)
      (pss_cons (ps_for PassesOwn.never rfl (pi_enum (by rfl) T.enum (pa_cons (pv 0) pa_nil)) (pg_tup rfl (pgs_cons (pg_name (i := 5) scSum.nd rfl (.inl rfl)) (pgs_cons (pg_name (i := 6) scSum.nd rfl (.inl rfl)) pgs_nil)))
        (pss_cons (ps_if (pt_cmpR op_eq (pe_op op_mod (pv 5) pe_int) pe_int (nomark _))
          (pss_cons (ps_if (PW.pt (pw_and (pt_cmpR op_ne (pv 6) pe_str (nomark _)) (pw_and1 (pt_cmpR op_ne (pv 6) pe_str (nomark _))))) (pss_one (ps_ret pe_non)) pss_nil)
          (pss_cons (ps_set (i := 4) scSum.nd rfl (.inl rfl) (pe_ifExp (pt_cmpR op_eq (pv 6) pe_str (nomark _)) pe_int (pe_un un_neg pe_int)))
          (pss_one ps_continue))) pss_nil)
        (pss_cons (ps_set (i := 7) scSum.nd rfl (.inl rfl) (pe_call OT hr rfl M.g M.u.kp M.b .nil pass0 (pa_cons (pv 6) (pa_cons (pv 1) pa_nil))))
        (pss_cons (ps_if (PW.pt (pw_or (pt_cmpR op_isN (pv 7) pe_non (nomark _)) (pw_or1 (PW.pt (pw_and (pt_cmpR op_in_seq (pv 6) (pv 1) (by rfl)) (pw_and1 (pt_cmp (pc_din hu (pv 6) (pv 3))))))))) (pss_one (ps_ret pe_non)) pss_nil)
        (pss_cons (ps_dput hu (pv 3) (pv 6) pe_bl rfl)
        (pss_one (ps_expr (pe_bm PySem.F.plainAttrs_list PySem.F.slot_list_append PySem.F.type_list_append mt_append (pv 2) (pa_cons (pe_tup (pa_cons (pv 4) (pa_cons (pv 7) pa_nil))) pa_nil)))))))))
      (pss_one (ps_ret (pe_callTy call_tuple_of (by rfl) T.tuple (by decide +kernel) (pa_cons (pv 2) pa_nil)))))))), ?_⟩
    refine ⟨_, rfl, wl, _, rfl, .inl hw, _, _, rfl, rfl, (by show (0 : Int) < 2; decide), rfl, _, rfl, ?_⟩
    rw [dec_i, List.length_map]
    have none_ok : sumD ws ns = .none → Q .non H := fun e => k _ _ (Same.refl H) (by rw [e]; exact .non)
    refine ite2 (fun g => ?_) (fun g => ?_)
    · refine iteT (none_ok ?_)
      have := dt g
      unfold sumD
      rw [if_pos (.inl (by omega))]
    have g1 := df g
    refine ⟨_, rfl, wl, _, rfl, .inl hw, _, _, rfl, rfl, .inl ⟨by decide, by decide⟩, _, _, rfl, rfl, _, _, rfl, rfl, _, rfl, ?_⟩
    rw [List.length_map]
    refine ite2 (fun g => ?_) (fun g => ?_)
    · have := dt g
      refine none_ok ?_
      unfold sumD
      rw [if_pos (.inr (by omega))]
    have g2 := df g
    have hlen : ws.length ≤ 7 := by omega
    refine ⟨Nat.zero_le _, fun tl0 htl => ?_⟩
    have s1 : Same H _ := same_new (o := .lst []) htl
    have htl1 : upd H tl0 (.lst []) tl0 = some (.lst []) := upd_same
    generalize upd H tl0 (.lst []) = H1 at *
    intro md hmd
    have ntm : tl0 ≠ md := fun z => by rw [z, hmd] at htl1; cases htl1
    have s2 : Same H1 _ := same_new (o := .dK []) hmd
    have hmd2 : upd H1 md (.dK []) md = some (.dK []) := upd_same
    have htl2 : upd H1 md (.dK []) tl0 = some (.lst []) := s2 _ _ htl1
    generalize upd H1 md (.dK []) = H2 at *
    have hmd0 : H md = none := s1.free hmd
    refine ⟨_, rfl, wl, _, rfl, (s1.trans s2).seq hw, for_it walk_enum (fun i σ H3 => ∃ (acc : List V) (ds : List PyData) (met : List (Key × V)) (sg : Int) (v5 v6 v7 : Option V), σ = [some (.ref wl), some (.ref pn), some (.ref tl0), some (.ref md), some (.int sg), v5, v6, v7] ∧ Same H H3 ∧ H3 tl0 = some (.lst acc) ∧ H3 md = some (.dK met) ∧
      TDs K H3 acc ds ∧ acc.length ≤ i ∧ met.length ≤ i ∧ mSum ns ws 0 [] [] 1 = mSum ns (ws.drop i) i ds met sg) ⟨[], [], [], 1, none, none, none, rfl, s1.trans s2, htl2, hmd2, .nil, Nat.le_refl _, Nat.le_refl _, rfl⟩ (fun i σ H3 _ ⟨_, _, _, _, _, _, _, _, s3, _⟩ => s3.seq hw) ?_ ?_⟩
    · rintro i x σ H3 H4 hi ⟨acc, ds, met, sg, v5, v6, v7, rfl, s3, hl3, hm3, td, la, lm, em⟩ ⟨T0, xi, yi, rfl, hT, rfl, e1, e2⟩
      have s4 : Same H3 _ := same_new (o := .tup [xi, yi]) hT
      have hT4 : upd H3 T0 (.tup [xi, yi]) T0 = some (.tup [xi, yi]) := upd_same
      generalize upd H3 T0 (.tup [xi, yi]) = H4 at *
      refine ⟨T0, _, rfl, SqT.of hT4, rfl, _, _, rfl, _, _, rfl, rfl, ?_⟩
      cases e1
      rw [List.length_map] at hi
      obtain ⟨z, hz⟩ : ∃ z, ws[i]? = some z := ⟨ws[i], List.getElem?_eq_getElem hi⟩
      have e2 : (ws.map V.str)[i]? = some yi := e2
      rw [List.getElem?_map, hz] at e2
      cases e2
      have s04 := s3.trans s4
      have zm : z ∈ ws := List.mem_of_getElem? hz
      have stop : mSum ns ws 0 [] [] 1 = none → ∀ H', Same H H' → Q .non H' := fun e H' s' => k _ _ s' (by
        have : sumD ws ns = .none := by
          unfold sumD
          rw [if_neg (by omega), e]
        rw [this]; exact .non)
      rw [show ws.drop i = z :: ws.drop (i + 1) from by
        obtain ⟨h1, h2⟩ := List.getElem?_eq_some_iff.mp hz
        rw [← h2]; exact List.drop_eq_getElem_cons h1, mSum_cons] at em
      refine ⟨_, rfl, _, _, rfl, rfl, (by show (0 : Int) < 2; decide), rfl, _, rfl, ?_⟩
      rw [dec_i]
      refine ite2 (fun g => ?_) (fun g => ?_)
      · rw [if_pos (show i % 2 = 1 by have := dt g; omega)] at em
        refine ⟨_, rfl, rfl, _, rfl, ?_⟩
        by_cases hp : z = "+"
        · subst hp
          rw [if_neg (fun y => y.1 rfl), if_pos rfl] at em
          refine iteNS rfl (iteF ?_)
          refine ⟨_, rfl, rfl, _, rfl, iteY rfl ?_⟩
          exact ⟨acc, ds, met, 1, _, _, _, rfl, s04, s4 _ _ hl3, s4 _ _ hm3, td.keep (KeepT.of s4), by omega, by omega, em⟩
        · refine iteNN (strN hp) ⟨_, rfl, rfl, _, rfl, ?_⟩
          by_cases hm : z = "-"
          · subst hm
            rw [if_neg (fun y => y.2 rfl), if_neg hp] at em
            refine iteNS rfl ?_
            refine ⟨_, rfl, rfl, _, rfl, iteN (strN hp) ?_⟩
            exact ⟨_, rfl, acc, ds, met, -1, _, _, _, rfl, s04, s4 _ _ hl3, s4 _ _ hm3, td.keep (KeepT.of s4), by omega, by omega, em⟩
          · rw [if_pos ⟨hp, hm⟩] at em
            exact iteNN (strN hm) (stop em _ s04)
      · rw [if_neg (show ¬ i % 2 = 1 by have := df g; omega)] at em
        refine ⟨_, rfl, _, rfl, z, pn, ns, rfl, pl.len z zm, pl.asc z zm, Same.tup s04 hn, ?_⟩
        refine ⟨_, rfl, rfl, _, rfl, ?_⟩
        have hm4 := s4 _ _ hm3
        by_cases h0 : termV z ns = .non
        · rw [if_pos (.inl h0)] at em
          exact iteY h0 (iteT (stop em _ s04))
        refine iteN h0 ?_
        refine ⟨_, rfl, _, rfl, pn, _, rfl, .inr (Same.tup s04 hn), rfl, flat_strs ns, _, rfl, ?_⟩
        rw [in_strs]
        by_cases hb : z ∈ ns ∧ (valV met (.inr z)).isSome = true
        · rw [if_pos (.inr hb)] at em
          refine iteY hb.1 ⟨_, rfl, _, rfl, md, _, rfl, DGet.k (k := Sum.inr z) hm4, _, rfl, ?_⟩
          rw [hb.2]
          exact iteT (stop em _ s04)
        rw [if_neg (fun y => y.elim h0 hb)] at em
        refine ite_k ?_ (fun g nx => ⟨_, rfl, _, rfl, md, _, rfl, DGet.k (k := Sum.inr z) hm4, _, rfl, ite2 (fun g2 => absurd ⟨dt g, g2⟩ hb) (fun _ => nx)⟩)
        refine ⟨_, rfl, _, rfl, md, _, rfl, DPut.k (k := Sum.inr z) (v := .bl true) hm4 (by rw [sizeLine_eq]; omega), ?_⟩
        have m5 : upd H4 md (.dK (putK met (.inr z) (.bl true))) md = some (.dK (putK met (.inr z) (.bl true))) := upd_same
        have l5 : upd H4 md (.dK (putK met (.inr z) (.bl true))) tl0 = some (.lst acc) := by rw [upd_ne ntm]; exact s4 _ _ hl3
        have k5 : KeepT H4 (upd H4 md (.dK (putK met (.inr z) (.bl true)))) := KeepT.dic hm4
        have s5 : Same H (upd H4 md (.dK (putK met (.inr z) (.bl true)))) := fun b o e => by
          rw [upd_ne (fun y => by rw [y, hmd0] at e; cases e)]
          exact s04 _ _ e
        have lp := put_len met (.inr z) (.bl true)
        generalize upd H4 md (.dK (putK met (.inr z) (.bl true))) = H5 at *
        refine ⟨_, rfl, .inl ⟨rfl, _, SqL.of l5⟩, _, rfl, _, rfl, (by show 2 ≤ sizeLine; decide), fun T1 hT1 => ?_⟩
        have s6 : Same H5 _ := same_new (o := .tup [.int sg, termV z ns]) hT1
        have t6 : upd H5 T1 (.tup [.int sg, termV z ns]) T1 = some (.tup [.int sg, termV z ns]) := upd_same
        generalize upd H5 T1 (.tup [.int sg, termV z ns]) = H6 at *
        have l6 := s6 _ _ l5
        refine ⟨tl0, _, _, rfl, rfl, l6, (by rw [sizeLine_eq]; omega), ?_⟩
        have k7 : KeepT H6 (upd H6 tl0 (.lst (acc ++ [.ref T1]))) := KeepT.lst l6
        refine ⟨acc ++ [.ref T1], ds ++ [.tuple [.int sg, termD z ns]], _, sg, _, _, _, rfl, fun b o e => ?_, upd_same, ?_, ?_, ?_, ?_, em⟩
        · rw [upd_ne (fun y => by rw [y, htl] at e; cases e)]
          exact s6 _ _ (s5 _ _ e)
        · rw [upd_ne ntm.symm]
          exact s6 _ _ m5
        · exact TDs.snoc (.tup (k7.seq (SqT.of t6)) (.cons (.int _) (.cons (term_td z ns) .nil))) (td.keep (((KeepT.of s4).trans k5).trans ((KeepT.of s6).trans k7)))
        · rw [List.length_append]; show acc.length + 1 ≤ _; omega
        · omega
    · rintro σ H3 ⟨acc, ds, met, sg, v5, v6, v7, rfl, s3, hl3, hm3, td, la, lm, em⟩
      rw [List.length_map, List.drop_length] at em
      refine ⟨_, rfl, tl0, acc, rfl, .inl ⟨SqL.of hl3, fun t ht => ?_⟩⟩
      have s4 : Same H3 _ := same_new (o := .tup acc) ht
      refine k _ _ (s3.trans s4) ?_
      unfold sumD
      rw [if_neg (by omega), em]
      exact .tup (SqT.of upd_same) (td.keep (KeepT.of s4))
end
end IdL
namespace IdL
open PySem L2 TL
theorem cut_to (l : List V) (k : Nat) : cutV l none (some (k : Int)) = l.take k := by
  unfold cutV
  rw [HT.sIx_none, HT.sIx_nat, List.drop_zero, Nat.sub_zero]
  by_cases h : k ≤ l.length
  · rw [Nat.min_eq_left h]
  · rw [Nat.min_eq_right (by omega), List.take_length, List.take_of_length_le (by omega)]
theorem cut_from (l : List V) (k : Nat) : cutV l (some (k : Int)) none = l.drop k := by
  unfold cutV
  rw [HT.sIx_none, HT.sIx_nat]
  by_cases h : k ≤ l.length
  · rw [Nat.min_eq_left h]
    exact List.take_of_length_le (by rw [List.length_drop]; omega)
  · rw [Nat.min_eq_right (by omega), List.drop_length, List.drop_of_length_le (by omega), List.take_nil]
theorem cut_but (l : List V) (k : Nat) (h : 0 < k) (hk : k ≤ l.length) : cutV l none (some (-(k : Int))) = l.take (l.length - k) := by
  unfold cutV
  rw [HT.sIx_none]
  have e : HT.sIx l.length l.length (some (-(k : Int))) = l.length - k := by
    show (if (-(k : Int)) < 0 then (-(k : Int) + (l.length : Int)).toNat else _) = _
    rw [if_pos (by omega)]
    omega
  rw [e, List.drop_zero, Nat.sub_zero]
theorem Asc.ok {z : Str} (a : Asc z) : PyData.strOk z = true := by
  unfold PyData.strOk
  rw [Array.all_eq_true']
  intro c hc
  exact decide_eq_true (Nat.lt_trans (a c (Array.mem_toList_iff.mpr hc)) (by decide))
/-- texts in a row as data -/
theorem strs_dp {K : PySem.W.Frag} {H : Hp} : ∀ ws : List Str, DpAll K H (ws.map V.str) (ws.map PyData.str)
  | [] => .nil
  | w :: ws => .cons (.str w) (strs_dp ws)
theorem strs_lay : ∀ ws : List Str, (∀ z ∈ ws, PyData.strOk z = true) → PyData.canLayAll0 (ws.map PyData.str) = true
  | [], _ => rfl
  | w :: ws, h => by
    rw [List.map_cons]
    show (PyData.canLay0 (.str w) && _) = true
    rw [strs_lay ws fun z hz => h z (List.mem_cons_of_mem _ hz), Bool.and_true]
    exact h w (List.mem_cons_self ..)
theorem strs_dep : ∀ ws : List Str, PyData.depthAll (ws.map PyData.str) ≤ 1
  | [] => by simp [PyData.depthAll]
  | w :: ws => by
    have := strs_dep ws
    simp only [List.map_cons, PyData.depthAll, PyData.depth]
    omega
theorem strs_shaped {ws : List Str} (h : ∀ z ∈ ws, PyData.strOk z = true) : SeqAt.shaped (.list (ws.map PyData.str)) = true := by
  unfold SeqAt.shaped
  rw [Bool.and_eq_true]
  refine ⟨by show PyData.canLayAll0 _ = true; exact strs_lay ws h, decide_eq_true ?_⟩
  have := strs_dep ws
  simp only [PyData.depth]
  omega
theorem eqv_strs : ∀ ws vs : List Str, PyData.eqvAll (ws.map PyData.str) (vs.map PyData.str) = decide (ws = vs)
  | [], [] => rfl
  | [], _ :: _ => rfl
  | _ :: _, [] => rfl
  | w :: ws, v :: vs => by
    show (PyData.eqv (.str w) (.str v) && PyData.eqvAll (ws.map PyData.str) (vs.map PyData.str)) = _
    rw [eqv_strs ws vs]
    show ((w == v) && _) = _
    by_cases h : w = v
    · subst h
      rw [beq_self_eq_true, Bool.true_and]
      by_cases k : ws = vs
      · subst k; rw [decide_eq_true rfl, decide_eq_true rfl]
      · rw [decide_eq_false k, decide_eq_false fun y => k (List.cons.inj y).2]
    · rw [beq_eq_false_iff_ne.mpr h, Bool.false_and, decide_eq_false fun y => h (List.cons.inj y).1]
/-- two lists of texts, compared -/
theorem ne_strs {K : PySem.W.Frag} {H : Hp} {p q : Addr} {ws vs : List Str} (hw : ∀ z ∈ ws, PyData.strOk z = true) (hv : ∀ z ∈ vs, PyData.strOk z = true) (hp : H p = some (.lst (ws.map V.str))) (hq : H q = some (.lst (vs.map V.str))) {Q : VK} (k : Q (.bl (!decide (ws = vs))) H) : rNeD K (.ref p) (.ref q) H Q := by
  refine ⟨.list _, .list _, .lst (SqL.of hp) (strs_dp ws), .lst (SqL.of hq) (strs_dp vs), strs_shaped hw, strs_shaped hv, ?_⟩
  show Q (.bl (!PyData.eqvAll (ws.map PyData.str) (vs.map PyData.str))) H
  rw [eqv_strs]
  exact k
/-! ### a part of a test -/
def phrK (phr : List (Str × Str)) : List (Key × V) := phr.map fun p => (.inr p.1, .str p.2)
theorem val_phr (x : Str) : ∀ phr : List (Str × Str), valV (phrK phr) (.inr x) = (phr.lookup x).map V.str
  | [] => rfl
  | (a, b) :: r => by
    show valV ((.inr a, .str b) :: phrK r) (.inr x) = _
    by_cases h : a = x
    · subst h
      rw [valV_pos rfl, List.lookup_cons_self]
      rfl
    · rw [valV_neg (fun y => h (Sum.inr.inj y)), val_phr x r, List.lookup_cons, beq_eq_false_iff_ne.mpr (Ne.symm h)]
def sNot : List Str := ["not"]
def sOps : List Str := ["<", "<=", "is"]
def termOk (z : Str) (ns : List Str) : Bool := isNum z || decide (z ∈ ns)
theorem term_ok {z : Str} {ns : List Str} : termV z ns = .non ↔ termOk z ns = false := by
  unfold termV termOk
  by_cases h : isNum z = true
  · rw [if_pos h, h]; exact ⟨(fun y => nomatch y), (fun y => nomatch y)⟩
  · rw [if_neg h, Bool.eq_false_iff.mpr h]
    by_cases k : z ∈ ns
    · rw [if_pos k, decide_eq_true k]; exact ⟨(fun y => nomatch y), (fun y => nomatch y)⟩
    · rw [if_neg k, decide_eq_false k]; exact ⟨fun _ => rfl, fun _ => rfl⟩
def restOf (ws : List Str) : List Str := if ws.take 1 = sNot then ws.drop 1 else ws
def partD (ws ns : List Str) (phr : List (Str × Str)) : PyData :=
  match phr.lookup (Txt.join " " (restOf ws)) with
  | some y => .tuple [.bool (!decide (ws.take 1 = sNot)), .str y, .none, .none]
  | none => match restOf ws with
    | [l, o, r] => if o ∈ sOps ∧ l ≠ r ∧ termOk l ns = true ∧ termOk r ns = true then .tuple [.bool (!decide (ws.take 1 = sNot)), .str o, termD l ns, termD r ns] else .none
    | _ => .none
theorem partD_some {ws ns : List Str} {phr : List (Str × Str)} {y : Str} (e : phr.lookup (Txt.join " " (restOf ws)) = some y) : partD ws ns phr = .tuple [.bool (!decide (ws.take 1 = sNot)), .str y, .none, .none] := by
  unfold partD; rw [e]
theorem partD_three {ws ns : List Str} {phr : List (Str × Str)} {l o r : Str} (e : phr.lookup (Txt.join " " (restOf ws)) = none) (h : restOf ws = [l, o, r]) : partD ws ns phr = if o ∈ sOps ∧ l ≠ r ∧ termOk l ns = true ∧ termOk r ns = true then .tuple [.bool (!decide (ws.take 1 = sNot)), .str o, termD l ns, termD r ns] else .none := by
  unfold partD; rw [e, h]
theorem partD_len {ws ns : List Str} {phr : List (Str × Str)} (e : phr.lookup (Txt.join " " (restOf ws)) = none) (h : (restOf ws).length ≠ 3) : partD ws ns phr = .none := by
  unfold partD; rw [e]
  revert h
  generalize restOf ws = l
  intro h
  match l, h with
  | [], _ => rfl
  | [_], _ => rfl
  | [_, _], _ => rfl
  | [_, _, _], h => exact absurd rfl h
  | _ :: _ :: _ :: _ :: _, _ => rfl
theorem rest_plain {ws : List Str} (p : Plain ws) : Plain (restOf ws) := by
  unfold restOf
  split
  · exact p.drop 1
  · exact p
theorem three {α : Type} {l : List α} (h : l.length = 3) : ∃ a b c, l = [a, b, c] := match l, h with
  | [a, b, c], _ => ⟨a, b, c, rfl⟩
abbrev sPart : Stmt := top 62
theorem scPart : FnScope ["words", "names", "phrases", "wanted", "rest", "phrase", "left", "right"] ["words", "names", "phrases"] (defScope sPart) := ⟨rfl, rfl, rfl, by decide +kernel, rfl, by decide +kernel, by decide +kernel⟩
def spPart (K : PySem.W.Frag) : Sp := fun vs H Q _ => ∃ (wl pn ph : Addr) (ws ns : List Str) (phr : List (Str × Str)), vs = [.ref wl, .ref pn, .ref ph] ∧ SqL K H wl (ws.map V.str) ∧ SqT K H pn (ns.map V.str) ∧ H ph = some (.dK (phrK phr)) ∧ Plain ws ∧
  ∀ v H', Same H H' → TD K H' v (partD ws ns phr) → Q v H'
section
variable {P : Program} {w : World} {K : PySem.W.Frag} {mg : Str → Option Value} {base : Heap}
theorem ok_part {f fN fT : Addr} {fd dN dT : FuncData} (F : Fun K "read_part" "read_part" sPart f fd) (N : FNum K mg fN dN) (M : FTerm K mg fT dT) (T : Glo mg) : FnOk P w K mg base CX0 3 f fd ["words", "names", "phrases"] (spPart K) := by
  have OT : FnOk P w K mg base CX0 2 fT dT ["word", "names"] (spTerm K) := ok_term M.u N T
  refine F.ok scPart (fun vs H Q E h => ?_) (fun cdv A outer s H vs Q E hr h => ?_)
  · obtain ⟨wl, pn, ph, ws, ns, phr, rfl, _⟩ := h
    rfl
  · obtain ⟨wl, pn, ph, ws, ns, phr, rfl, hw, hn, hph, pl, k⟩ := h
    have hu := hu_of hr
    refine ⟨_, pss_cons (ps_set (i := 3) scPart.nd rfl (.inl rfl) (pe_cmpR (op_neD hr.units) (pe_slice sl_list (pv 0) po_none (po_some pe_int)) (pe_lst (pa_cons pe_str pa_nil)) (nomark _)))
      (pss_join (ps_set (i := 4) scPart.nd rfl (.inl rfl) (pe_ifExp (pt_val (pv 3)) (pv 0) (pe_slice sl_list (pv 0) (po_some pe_int) po_none)))
      (pss_cons (ps_set (i := 5) scPart.nd rfl (.inl rfl) (pe_join pe_str (pv 4)))
      (pss_cons (ps_if (pt_cmp (pc_din hu (pv 5) (pv 2))) (pss_one (ps_ret (pe_tup (pa_cons (pv 3) (pa_cons (pe_dget hu (pv 2) (pv 5) (fun _ _ => rfl)) (pa_cons pe_non (pa_cons pe_non pa_nil))))))) pss_nil)
      (pss_cons (ps_if (PW.pt (pw_or (pt_cmpR op_ne (pe_callB call_len_seq (by rfl) T.len PySem.boot_len (pa_cons (pv 4) pa_nil)) pe_int (nomark _))
          (pw_or (pt_cmpR op_notIn_seq (pe_ix ix_list (pv 4) pe_int (fun _ _ => rfl)) (pe_tup (pa_cons pe_str (pa_cons pe_str (pa_cons pe_str pa_nil)))) (by rfl))
          (pw_or1 (pt_cmpR op_eq (pe_ix ix_list (pv 4) pe_int (fun _ _ => rfl)) (pe_ix ix_list (pv 4) pe_int (fun _ _ => rfl)) (nomark _)))))) (pss_one (ps_ret pe_non)) pss_nil)
      (pss_cons (ps_par (i := 6) (j := 7) (by rfl) scPart.nd rfl rfl (by decide) rfl rfl (pa_cons (pe_call OT hr rfl M.g M.u.kp M.b .nil pass0 (pa_cons (pe_ix ix_list (pv 4) pe_int (fun _ _ => rfl)) (pa_cons (pv 1) pa_nil)))
        (pa_cons (pe_call OT hr rfl M.g M.u.kp M.b .nil pass0 (pa_cons (pe_ix ix_list (pv 4) pe_int (fun _ _ => rfl)) (pa_cons (pv 1) pa_nil))) pa_nil)) (by rfl))
      (pss_cons (ps_if (PW.pt (pw_or (pt_cmpR op_isN (pv 6) pe_non (nomark _)) (pw_or1 (pt_cmpR op_isN (pv 7) pe_non (nomark _))))) (pss_one (ps_ret pe_non)) pss_nil)
      (pss_one (ps_ret (pe_tup (pa_cons (pv 3) (pa_cons (pe_ix ix_list (pv 4) pe_int (fun _ _ => rfl)) (pa_cons (pv 6) (pa_cons (pv 7) pa_nil))))))))))))), ?_⟩
    refine ⟨_, rfl, _, rfl, wl, _, rfl, hw, fun p hp => ?_⟩
    have s1 : Same H _ := same_new (o := .lst (cutV (ws.map V.str) none (some 1))) hp
    have p1 : upd H p (.lst (cutV (ws.map V.str) none (some 1))) p = some (.lst ((ws.take 1).map V.str)) := by
      rw [upd_same, show cutV (ws.map V.str) none (some 1) = (ws.map V.str).take 1 from cut_to _ 1, List.map_take]
    generalize upd H p (.lst (cutV (ws.map V.str) none (some 1))) = H1 at *
    refine ⟨(by show 1 ≤ sizeLine; decide), fun q hq => ?_⟩
    have s2 : Same H1 _ := same_new (o := .lst (sNot.map V.str)) hq
    have q2 : upd H1 q (.lst (sNot.map V.str)) q = some (.lst (sNot.map V.str)) := upd_same
    have p2 := s2 _ _ p1
    show rNeD _ _ _ (upd H1 q (.lst (sNot.map V.str))) _
    generalize upd H1 q (.lst (sNot.map V.str)) = H2 at *
    have s02 := s1.trans s2
    refine ne_strs (ws := ws.take 1) (vs := sNot) (fun z hz => (pl.asc z (List.mem_of_mem_take hz)).ok) (by decide +kernel) p2 q2 ?_
    refine ⟨fun σ G => ∃ rl : Addr, σ = [some (.ref wl), some (.ref pn), some (.ref ph), some (.bl (!decide (ws.take 1 = sNot))), some (.ref rl), none, none, none] ∧ Same H G ∧ SqL K G rl ((restOf ws).map V.str), ?_, ?_⟩
    · refine ⟨_, rfl, _, rfl, ?_⟩
      by_cases hnot : ws.take 1 = sNot
      · refine iteNS hnot ⟨_, rfl, _, rfl, wl, _, rfl, s02.seq hw, fun r hr' => ?_⟩
        refine ⟨r, rfl, s02.trans (same_new hr'), ?_⟩
        refine SqL.of ?_
        rw [upd_same, show cutV (ws.map V.str) (some 1) none = (ws.map V.str).drop 1 from cut_from _ 1, ← List.map_drop]
        unfold restOf
        rw [if_pos hnot]
      · refine iteNN hnot ⟨_, rfl, wl, rfl, s02, ?_⟩
        unfold restOf
        rw [if_neg hnot]
        exact s02.seq hw
    rintro σ G ⟨rl, rfl, sG, hrl⟩
    have rp := rest_plain pl
    refine ⟨⟨_, rfl⟩, _, rfl, _, rl, restOf ws, rfl, rfl, .inl hrl, (by have := rp.tot; show _ + _ * 1 ≤ _; omega), ?_⟩
    have hphG := sG _ _ hph
    refine ⟨_, rfl, _, rfl, ph, _, rfl, DGet.k (k := Sum.inr (Txt.join " " (restOf ws))) hphG, _, rfl, ?_⟩
    have dg := DGet.k (k := Sum.inr (Txt.join " " (restOf ws))) hphG
    rw [val_phr] at dg ⊢
    cases e : phr.lookup (Txt.join " " (restOf ws)) with
    | some y =>
      rw [e] at dg
      refine iteT ?_
      refine ⟨_, rfl, _, rfl, _, rfl, ph, _, rfl, dg, (by show 4 ≤ sizeLine; decide), fun t ht => ?_⟩
      refine k _ _ (sG.trans (same_new ht)) ?_
      rw [partD_some e]
      exact .tup (SqT.of upd_same) (.cons (.bl _) (.cons (.str _) (.cons .non (.cons .non .nil))))
    | none =>
      refine iteF ?_
      have none_ok : partD ws ns phr = .none → ∀ H', Same H H' → Q .non H' := fun e H' s' => k _ _ s' (by rw [e]; exact .non)
      refine ⟨_, rfl, rl, _, rfl, .inl hrl, rfl, _, rfl, ?_⟩
      rw [dec_i, List.length_map]
      by_cases h3 : (restOf ws).length = 3
      · obtain ⟨l, o, r, e3⟩ := three h3
        rw [e3] at hrl rp
        have eP := partD_three (ns := ns) e e3
        have zl : ∀ z ∈ [l, o, r], Asc z ∧ z.length ≤ sizeLine := fun z hz => ⟨rp.asc z hz, rp.len z hz⟩
        refine iteNS (by omega) ?_
        refine ⟨_, rfl, rl, _, _, .str o, rfl, rfl, hrl, rfl, (by show 3 ≤ sizeLine; decide), fun T hT => ?_⟩
        have s3 : Same G _ := same_new (o := .tup (sOps.map V.str)) hT
        have t3 : upd G T (.tup (sOps.map V.str)) T = some (.tup (sOps.map V.str)) := upd_same
        show rIn _ _ _ _ (upd G T (.tup (sOps.map V.str))) _
        generalize upd G T (.tup (sOps.map V.str)) = G3 at *
        have sG3 := sG.trans s3
        have hrl3 := s3.seq hrl
        refine ⟨T, _, rfl, .inr (SqT.of t3), rfl, flat_strs sOps, _, rfl, ?_⟩
        rw [in_strs]
        by_cases ho : o ∈ sOps
        · refine iteNS ho ?_
          refine ⟨_, rfl, rl, _, _, .str l, rfl, rfl, hrl3, rfl, _, rfl, rl, _, _, .str r, rfl, rfl, hrl3, rfl, rfl, _, rfl, ?_⟩
          rw [dec_str]
          by_cases hlr : l = r
          · exact iteY hlr (none_ok (by rw [eP, if_neg fun y => y.2.1 hlr]) _ sG3)
          refine iteN hlr ?_
          refine ⟨_, rfl, rl, _, _, .str l, rfl, rfl, hrl3, rfl, _, rfl, l, pn, ns, rfl, (zl l (by simp)).2, (zl l (by simp)).1, Same.tup sG3 hn, ?_⟩
          refine ⟨_, rfl, rl, _, _, .str r, rfl, rfl, hrl3, rfl, _, rfl, r, pn, ns, rfl, (zl r (by simp)).2, (zl r (by simp)).1, Same.tup sG3 hn, ?_⟩
          refine ⟨_, _, rfl, ?_⟩
          refine ⟨_, rfl, rfl, _, rfl, ?_⟩
          cases el : termOk l ns with
          | false =>
            refine iteY (term_ok.mpr el) (iteT (none_ok (by rw [eP, if_neg fun y => by rw [el] at y; exact Bool.false_ne_true y.2.2.1]) _ sG3))
          | true =>
            refine iteN (fun y => by rw [term_ok.mp y] at el; cases el) ?_
            refine ⟨_, rfl, rfl, _, rfl, ?_⟩
            cases er : termOk r ns with
            | false =>
              exact iteY (term_ok.mpr er) (none_ok (by rw [eP, if_neg fun y => by rw [er] at y; exact Bool.false_ne_true y.2.2.2]) _ sG3)
            | true =>
              refine iteN (fun y => by rw [term_ok.mp y] at er; cases er) ?_
              refine ⟨_, rfl, _, rfl, rl, _, _, .str o, rfl, rfl, hrl3, rfl, _, rfl, _, rfl, (by show 4 ≤ sizeLine; decide), fun t ht => ?_⟩
              refine k _ _ (sG3.trans (same_new ht)) ?_
              rw [eP, if_pos ⟨ho, hlr, el, er⟩]
              exact .tup (SqT.of upd_same) (.cons (.bl _) (.cons (.str _) (.cons (term_td _ _) (.cons (term_td _ _) .nil))))
        · exact iteNN ho (iteT (none_ok (by rw [eP, if_neg fun y => ho y.1]) _ sG3))
      · exact iteNN (by omega) (none_ok (partD_len e h3) _ sG)
end
end IdL
namespace IdL
open PySem L2 TL
/-! ### rows of words -/
inductive RowsL (H : Hp) : List Addr → List (List Str) → Prop
  | nil : RowsL H [] []
  | cons {a : Addr} {g : List Str} {as : List Addr} {gs : List (List Str)} : H a = some (.lst (g.map V.str)) → RowsL H as gs → RowsL H (a :: as) (g :: gs)
theorem RowsL.same {H H' : Hp} : ∀ {as : List Addr} {gs : List (List Str)}, RowsL H as gs → (∀ a ∈ as, ∀ o, H a = some o → H' a = some o) → RowsL H' as gs
  | _, _, .nil, _ => .nil
  | _, _, .cons h t, k => .cons (k _ (List.mem_cons_self ..) _ h) (RowsL.same t fun a ha => k a (List.mem_cons_of_mem _ ha))
theorem RowsL.snoc {H : Hp} {b : Addr} {g : List Str} (e : H b = some (.lst (g.map V.str))) : ∀ {as : List Addr} {gs : List (List Str)}, RowsL H as gs → RowsL H (as ++ [b]) (gs ++ [g])
  | _, _, .nil => .cons e .nil
  | _, _, .cons h t => .cons h (RowsL.snoc e t)
theorem RowsL.len {H : Hp} : ∀ {as : List Addr} {gs : List (List Str)}, RowsL H as gs → as.length = gs.length
  | _, _, .nil => rfl
  | _, _, .cons _ t => by rw [List.length_cons, List.length_cons, RowsL.len t]
theorem RowsL.get {H : Hp} : ∀ {as : List Addr} {gs : List (List Str)} (r : RowsL H as gs) (i : Nat) {a : Addr}, as[i]? = some a → ∃ g, gs[i]? = some g ∧ H a = some (.lst (g.map V.str))
  | _, _, .cons h t, 0, a, e => by cases e; exact ⟨_, rfl, h⟩
  | _, _, .cons h t, i + 1, a, e => RowsL.get t i e
def splitGo : List Str → List (List Str) → List Str → List (List Str)
  | [], init, last => init ++ [last]
  | w :: ws, init, last => if w = "and" then splitGo ws (init ++ [last]) [] else splitGo ws init (last ++ [w])
def splitW (ws : List Str) : List (List Str) := splitGo ws [] []
theorem splitGo_cons (w : Str) (ws : List Str) (init : List (List Str)) (last : List Str) : splitGo (w :: ws) init last = if w = "and" then splitGo ws (init ++ [last]) [] else splitGo ws init (last ++ [w]) := rfl
abbrev sParts : Stmt := top 63
theorem scParts : FnScope ["words", "parts", "word"] ["words"] (defScope sParts) := ⟨rfl, rfl, rfl, by decide +kernel, rfl, by decide +kernel, by decide +kernel⟩
def spParts (K : PySem.W.Frag) : Sp := fun vs H Q _ => ∃ (wl : Addr) (ws : List Str), vs = [.ref wl] ∧ SqL K H wl (ws.map V.str) ∧ ws.length ≤ 1000000 ∧
  ∀ (a : Addr) (as : List Addr) H', Same H H' → H' a = some (.lst (as.map V.ref)) → RowsL H' as (splitW ws) → Q (.ref a) H'
section
variable {P : Program} {w : World} {K : PySem.W.Frag} {mg : Str → Option Value} {base : Heap}
theorem ok_parts {f : Addr} {fd : FuncData} (F : Fun K "split_parts" "split_parts" sParts f fd) : FnOk P w K mg base CX0 1 f fd ["words"] (spParts K) := by
  refine F.ok scParts (fun vs H Q E h => ?_) (fun cdv A outer s H vs Q E hr h => ?_)
  · obtain ⟨wl, ws, rfl, _⟩ := h
    rfl
  · obtain ⟨wl, ws, rfl, hw, few, k⟩ := h
    refine ⟨_, pss_cons (ps_set (i := 1) scParts.nd rfl (.inl rfl) (pe_lst (pa_cons (pe_lst pa_nil) pa_nil)))
      (pss_cons (ps_for PassesOwn.never rfl (pi_list (pv 0)) (pg_name (i := 2) scParts.nd rfl (.inl rfl))
        (pss_one (ps_if (pt_cmpR op_eq (pv 2) pe_str (nomark _))
          (pss_one (ps_expr (pe_bm PySem.F.plainAttrs_list PySem.F.slot_list_append PySem.F.type_list_append mt_append (pv 1) (pa_cons (pe_lst pa_nil) pa_nil))))
          (pss_one (ps_expr (pe_bm PySem.F.plainAttrs_list PySem.F.slot_list_append PySem.F.type_list_append mt_append (pe_ix ix_list (pv 1) (pe_un un_neg pe_int) (fun _ _ => rfl)) (pa_cons (pv 2) pa_nil)))))))
      (pss_one (ps_ret (pv 1)))), ?_⟩
    refine ⟨Nat.zero_le _, fun q hq => ⟨(by show 1 ≤ sizeLine; decide), fun p hp => ?_⟩⟩
    have s1 : Same H _ := same_new (o := .lst []) hq
    have q1 : upd H q (.lst []) q = some (.lst []) := upd_same
    generalize upd H q (.lst []) = H1 at *
    have s2 : Same H1 _ := same_new (o := .lst [.ref q]) hp
    have p2 : upd H1 p (.lst [.ref q]) p = some (.lst [.ref q]) := upd_same
    have q2 := s2 _ _ q1
    generalize upd H1 p (.lst [.ref q]) = H2 at *
    have s02 := s1.trans s2
    have p0 : H p = none := s1.free hp
    have npq : q ≠ p := fun z => by rw [z, hp] at q1; cases q1
    refine ⟨_, rfl, wl, rfl, ⟨_, s02.seq hw⟩, for_list (K := K) (a := wl) (xs := ws.map V.str) (fun i σ G => ∃ (as : List Addr) (b : Addr) (gs : List (List Str)) (g : List Str) (v : Option V), σ = [some (.ref wl), some (.ref p), v] ∧ Same H G ∧ G p = some (.lst ((as ++ [b]).map V.ref)) ∧ RowsL G as gs ∧ G b = some (.lst (g.map V.str)) ∧ b ∉ as ∧ H b = none ∧ (∀ a ∈ as, a ≠ p) ∧ b ≠ p ∧ as.length ≤ i ∧ g.length ≤ i ∧ splitW ws = splitGo (ws.drop i) gs g)
      ⟨[], q, [], [], none, rfl, s02, p2, .nil, q2, List.not_mem_nil, hq, (fun _ h => absurd h List.not_mem_nil), npq, Nat.le_refl _, Nat.le_refl _, rfl⟩ (fun i σ G _ ⟨_, _, _, _, _, _, s3, _⟩ => s3.seq hw) ?_ ?_⟩
    · rintro i x σ G hi ⟨as, b, gs, g, v, rfl, s3, hpG, R, hb, nb, b0, np, nbp, la, lg, em⟩
      have hi' : i < ws.length := by
        have := (List.getElem?_eq_some_iff.mp hi).1
        rwa [List.length_map] at this
      obtain ⟨z, hz⟩ : ∃ z, ws[i]? = some z := ⟨ws[i], List.getElem?_eq_getElem hi'⟩
      rw [List.getElem?_map, hz] at hi
      cases hi
      rw [show ws.drop i = z :: ws.drop (i + 1) from by
        obtain ⟨h1, h2⟩ := List.getElem?_eq_some_iff.mp hz
        rw [← h2]; exact List.drop_eq_getElem_cons h1, splitGo_cons] at em
      refine ⟨_, rfl, rfl, _, rfl, ?_⟩
      rw [dec_str]
      by_cases hand : z = "and"
      · rw [if_pos hand] at em
        refine iteY hand ?_
        refine ⟨_, rfl, .inl ⟨rfl, _, SqL.of hpG⟩, Nat.zero_le _, fun n hn => ?_⟩
        have s4 : Same G _ := same_new (o := .lst []) hn
        have n4 : upd G n (.lst []) n = some (.lst []) := upd_same
        generalize upd G n (.lst []) = G4 at *
        have hp4 := s4 _ _ hpG
        have nnp : n ≠ p := fun y => by rw [y, hpG] at hn; cases hn
        refine ⟨p, _, _, rfl, rfl, hp4, (by rw [List.length_map, List.length_append, sizeLine_eq]; show as.length + 1 < _; omega), ?_⟩
        refine ⟨as ++ [b], n, gs ++ [g], [], _, rfl, fun c o e => ?_, ?_, ?_, ?_, ?_, s3.free hn, ?_, nnp, ?_, Nat.zero_le _, em⟩
        · rw [upd_ne (fun y => by rw [y, p0] at e; cases e)]
          exact s4 _ _ (s3 _ _ e)
        · rw [upd_same, List.map_append (l₂ := [n])]; rfl
        · refine RowsL.snoc ?_ (R.same fun a ha o e => ?_)
          · rw [upd_ne nbp]; exact s4 _ _ hb
          · rw [upd_ne (np a ha)]; exact s4 _ _ e
        · rw [upd_ne nnp]; exact n4
        · intro hm
          rcases List.mem_append.mp hm with h | h
          · obtain ⟨j, hj⟩ := List.mem_iff_getElem?.mp h
            obtain ⟨_, _, e⟩ := R.get j hj
            rw [e] at hn; cases hn
          · rw [List.mem_singleton.mp h, hb] at hn; cases hn
        · intro a ha
          rcases List.mem_append.mp ha with h | h
          · exact np a h
          · rw [List.mem_singleton.mp h]; exact nbp
        · rw [List.length_append]; show as.length + 1 ≤ _; omega
      · rw [if_neg hand] at em
        refine iteN hand ?_
        refine ⟨_, rfl, _, rfl, p, _, _, .ref b, rfl, rfl, SqL.of hpG, (by rw [List.map_append]; exact atI_last _ _), ?_⟩
        refine ⟨.inl ⟨rfl, _, SqL.of hb⟩, _, rfl, b, _, _, rfl, rfl, hb, (by rw [List.length_map, sizeLine_eq]; omega), ?_⟩
        refine ⟨as, b, gs, g ++ [z], _, rfl, fun c o e => ?_, ?_, ?_, ?_, nb, b0, np, nbp, by omega, ?_, em⟩
        · rw [upd_ne (fun y => by rw [y, b0] at e; cases e)]
          exact s3 _ _ e
        · rw [upd_ne nbp.symm]; exact hpG
        · exact R.same fun a ha o e => by rw [upd_ne (show a ≠ b from fun y => nb (by rw [← y]; exact ha))]; exact e
        · rw [upd_same, List.map_append]; rfl
        · rw [List.length_append]; show g.length + 1 ≤ _; omega
    · rintro σ G ⟨as, b, gs, g, v, rfl, s3, hpG, R, hb, nb, b0, np, nbp, la, lg, em⟩
      rw [List.length_map, List.drop_length] at em
      refine ⟨_, rfl, k p (as ++ [b]) G s3 hpG ?_⟩
      rw [em]
      exact RowsL.snoc hb R
abbrev sSpaced : Stmt := top 65
theorem scSpaced : FnScope ["words"] ["words"] (defScope sSpaced) := ⟨rfl, rfl, rfl, by decide +kernel, rfl, by decide +kernel, by decide +kernel⟩
def spSpaced (K : PySem.W.Frag) : Sp := fun vs H Q _ => ∃ (wl : Addr) (ws : List Str), vs = [.ref wl] ∧ SqL K H wl (ws.map V.str) ∧ Q (.bl (!decide (("" : Str) ∈ ws))) H
theorem ok_spaced {f : Addr} {fd : FuncData} (F : Fun K "is_spaced" "is_spaced" sSpaced f fd) : FnOk P w K mg base CX0 1 f fd ["words"] (spSpaced K) := by
  refine F.ok scSpaced (fun vs H Q E h => ?_) (fun cdv A outer s H vs Q E hr h => ?_)
  · obtain ⟨wl, ws, rfl, _⟩ := h
    rfl
  · obtain ⟨wl, ws, rfl, hw, k⟩ := h
    refine ⟨_, pss_one (ps_ret (pe_cmpR op_notIn_seq pe_str (pv 0) (by rfl))), ?_⟩
    refine ⟨_, rfl, wl, _, rfl, .inl hw, rfl, flat_strs ws, ?_⟩
    rw [in_strs]
    exact k
def linesOf (x : Str) : List Str := if x = "" then [] else Txt.split x "\n"
abbrev sLines : Stmt := top 58
theorem scLines : FnScope ["text"] ["text"] (defScope sLines) := ⟨rfl, rfl, rfl, by decide +kernel, rfl, by decide +kernel, by decide +kernel⟩
def spLines : Sp := fun vs H Q _ => ∃ x : Str, vs = [.str x] ∧ x.length + 2 ≤ sizeLine ∧ ∀ a, H a = none → Q (.ref a) (upd H a (.lst ((linesOf x).map V.str)))
theorem ok_lines {f : Addr} {fd : FuncData} (F : Fun K "split_lines" "split_lines" sLines f fd) : FnOk P w K mg base CX0 1 f fd ["text"] spLines := by
  refine F.ok scLines (fun vs H Q E h => ?_) (fun cdv A outer s H vs Q E hr h => ?_)
  · obtain ⟨x, rfl, _⟩ := h
    rfl
  · obtain ⟨x, rfl, hx, k⟩ := h
    refine ⟨_, pss_cons (ps_if (pt_cmpR op_eq (pv 0) pe_str (nomark _)) (pss_one (ps_ret (pe_lst pa_nil))) pss_nil) (pss_one (ps_ret (pe_split (pv 0) pe_str))), ?_⟩
    unfold linesOf at k
    refine ⟨_, rfl, rfl, _, rfl, ?_⟩
    rw [dec_str]
    by_cases h : x = ""
    · rw [if_pos h] at k
      exact iteY h ⟨Nat.zero_le _, k⟩
    · rw [if_neg h] at k
      exact iteN h ⟨_, rfl, ⟨_, rfl⟩, _, _, rfl, rfl, rfl, hx, k⟩
end
end IdL
namespace IdL
open PySem L2 TL
def isNoneD : PyData → Bool
  | .none => true
  | _ => false
def testD (ws ns : List Str) (phr : List (Str × Str)) : PyData := if 4 < (splitW ws).length then .none else
  if ((splitW ws).map fun g => partD g ns phr).any isNoneD = true then .none else .tuple ((splitW ws).map fun g => partD g ns phr)
theorem any_none : ∀ ds : List PyData, (ds.any fun z => PyData.eqv z .none) = ds.any isNoneD
  | [] => rfl
  | d :: ds => by
    rw [List.any_cons, List.any_cons, any_none ds]
    cases d <;> rfl
/-- names, and what phrases stand for, are texts as they may be -/
structure Well (ns : List Str) (phr : List (Str × Str)) : Prop where
  n : ∀ z ∈ ns, PyData.strOk z = true
  p : ∀ z ∈ phr, PyData.strOk z.2 = true
theorem term_lay {z : Str} {ns : List Str} (h : ∀ z ∈ ns, PyData.strOk z = true) : PyData.canLay0 (termD z ns) = true ∧ PyData.depth (termD z ns) = 0 := by
  unfold termD
  by_cases a : isNum z = true
  · rw [if_pos a]; exact ⟨rfl, by simp [PyData.depth]⟩
  · rw [if_neg a]
    by_cases b : z ∈ ns
    · rw [if_pos b]; exact ⟨h z b, by simp [PyData.depth]⟩
    · rw [if_neg b]; exact ⟨rfl, by simp [PyData.depth]⟩
theorem ops_ok : ∀ z ∈ sOps, PyData.strOk z = true := by decide +kernel
theorem look_mem {x y : Str} : ∀ {l : List (Str × Str)}, l.lookup x = some y → ∃ a, (a, y) ∈ l
  | (a, b) :: l, h => by
    rw [List.lookup_cons] at h
    split at h
    · cases h; exact ⟨a, List.mem_cons_self ..⟩
    · obtain ⟨c, hc⟩ := look_mem h; exact ⟨c, List.mem_cons_of_mem _ hc⟩
theorem four_lay {b : Bool} {o : Str} {x y : PyData} (ho : PyData.strOk o = true) (hx : PyData.canLay0 x = true ∧ PyData.depth x = 0) (hy : PyData.canLay0 y = true ∧ PyData.depth y = 0) : PyData.canLay0 (.tuple [.bool b, .str o, x, y]) = true ∧ PyData.depth (.tuple [.bool b, .str o, x, y]) ≤ 1 := by
  refine ⟨?_, ?_⟩
  · show (true && (PyData.strOk o && (PyData.canLay0 x && (PyData.canLay0 y && true)))) = true
    rw [ho, hx.1, hy.1]; rfl
  · simp only [PyData.depth, PyData.depthAll, hx.2, hy.2]; decide
theorem part_lay {ws ns : List Str} {phr : List (Str × Str)} (W : Well ns phr) : PyData.canLay0 (partD ws ns phr) = true ∧ PyData.depth (partD ws ns phr) ≤ 1 := by
  cases e : phr.lookup (Txt.join " " (restOf ws)) with
  | some y =>
    rw [partD_some e]
    obtain ⟨a, ha⟩ := look_mem e
    exact four_lay (W.p _ ha) ⟨rfl, by simp [PyData.depth]⟩ ⟨rfl, by simp [PyData.depth]⟩
  | none =>
    by_cases h3 : (restOf ws).length = 3
    · obtain ⟨l, o, r, e3⟩ := three h3
      rw [partD_three e e3]
      split
      · rename_i c
        exact four_lay (ops_ok o c.1) (term_lay W.n) (term_lay W.n)
      · exact ⟨rfl, by simp [PyData.depth]⟩
    · rw [partD_len e h3]
      exact ⟨rfl, by simp [PyData.depth]⟩
theorem parts_lay {ns : List Str} {phr : List (Str × Str)} (W : Well ns phr) : ∀ gs : List (List Str), PyData.canLayAll0 (gs.map fun g => partD g ns phr) = true ∧ PyData.depthAll (gs.map fun g => partD g ns phr) ≤ 2
  | [] => ⟨rfl, by simp [PyData.depthAll]⟩
  | g :: gs => by
    obtain ⟨h1, h2⟩ := parts_lay W gs
    obtain ⟨k1, k2⟩ := part_lay (ws := g) W
    refine ⟨?_, ?_⟩
    · show (PyData.canLay0 (partD g ns phr) && PyData.canLayAll0 (gs.map fun g => partD g ns phr)) = true
      rw [k1, h1]; rfl
    · simp only [List.map_cons, PyData.depthAll]; omega
theorem go_plain : ∀ (ws : List Str) (init : List (List Str)) (last : List Str), (∀ g ∈ init, Plain g) → Plain (last ++ ws) → ∀ g ∈ splitGo ws init last, Plain g
  | [], init, last, hi, hl, g, hg => by
    rw [List.append_nil] at hl
    rcases List.mem_append.mp hg with h | h
    · exact hi g h
    · rw [List.mem_singleton.mp h]; exact hl
  | w :: ws, init, last, hi, hl, g, hg => by
    rw [splitGo_cons] at hg
    split at hg
    · refine go_plain ws (init ++ [last]) [] (fun g' h' => ?_) ?_ g hg
      · rcases List.mem_append.mp h' with h | h
        · exact hi g' h
        · rw [List.mem_singleton.mp h]
          have := hl.take last.length
          rwa [List.take_left'] at this
          rfl
      · have := hl.drop (last.length + 1)
        rw [show last ++ w :: ws = (last ++ [w]) ++ ws from by simp, List.drop_left' (by simp)] at this
        exact this
    · exact go_plain ws init (last ++ [w]) hi (by rw [List.append_assoc]; exact hl) g hg
abbrev sTest : Stmt := top 64
theorem scTest : FnScope ["words", "names", "phrases", "rows", "parts", "row"] ["words", "names", "phrases"] (defScope sTest) := ⟨rfl, rfl, rfl, by decide +kernel, rfl, by decide +kernel, by decide +kernel⟩
structure FPart (K : PySem.W.Frag) (mg : Str → Option Value) (f : Addr) (d : FuncData) : Prop where
  u : Fun K "read_part" "read_part" sPart f d
  b : Binds K d ["words", "names", "phrases"] []
  g : mg "read_part" = some (.ref f)
structure FSplit (K : PySem.W.Frag) (mg : Str → Option Value) (f : Addr) (d : FuncData) : Prop where
  u : Fun K "split_parts" "split_parts" sParts f d
  b : Binds K d ["words"] []
  g : mg "split_parts" = some (.ref f)
def spTest (K : PySem.W.Frag) : Sp := fun vs H Q _ => ∃ (wl pn ph : Addr) (ws ns : List Str) (phr : List (Str × Str)), vs = [.ref wl, .ref pn, .ref ph] ∧ SqL K H wl (ws.map V.str) ∧ SqT K H pn (ns.map V.str) ∧ H ph = some (.dK (phrK phr)) ∧ Plain ws ∧ Well ns phr ∧
  ∀ v H', Same H H' → TD K H' v (testD ws ns phr) → Q v H'
section
variable {P : Program} {w : World} {K : PySem.W.Frag} {mg : Str → Option Value} {base : Heap}
theorem ok_test {f fN fT fP fS : Addr} {fd dN dT dP dS : FuncData} (F : Fun K "read_test" "read_test" sTest f fd) (N : FNum K mg fN dN) (M : FTerm K mg fT dT) (PP : FPart K mg fP dP) (S : FSplit K mg fS dS) (T : Glo mg) : FnOk P w K mg base CX0 4 f fd ["words", "names", "phrases"] (spTest K) := by
  have OP : FnOk P w K mg base CX0 3 fP dP ["words", "names", "phrases"] (spPart K) := ok_part PP.u N M T
  have OS : FnOk P w K mg base CX0 1 fS dS ["words"] (spParts K) := ok_parts S.u
  obtain ⟨tk, tP⟩ := T.prt
  refine F.ok scTest (fun vs H Q E h => ?_) (fun cdv A outer s H vs Q E hr h => ?_)
  · obtain ⟨wl, pn, ph, ws, ns, phr, rfl, _⟩ := h
    rfl
  · obtain ⟨wl, pn, ph, ws, ns, phr, rfl, hw, hn, hph, pl, W, k⟩ := h
    have hu := hu_of hr
    have hu65 : (A.deeper (PyProof.Rows.envOfC "read_test" (defScope sTest) s.heap.objs.size f cdv)).units + 65 < cLine := by have := hr.un; omega
    refine ⟨_, pss_cons (ps_set (i := 3) scTest.nd rfl (.inl rfl) (pe_call OS (hr.mono (by decide)) rfl S.g S.u.kp S.b .nil pass0 (pa_cons (pv 0) pa_nil)))
      (pss_cons (ps_if (pt_cmpR op_gt (pe_callB call_len_seq (by rfl) T.len PySem.boot_len (pa_cons (pv 3) pa_nil)) (pe_glob rfl tP (v := .int 4) ⟨_, rfl⟩) (nomark _)) (pss_one (ps_ret pe_non)) pss_nil)
      (pss_cons (ps_setLc (i := 4) (own := [("row", 5)]) (g := gName 5) (tt := tYes) (by rfl) scTest.nd rfl rfl (sw_true rfl rfl rfl (by decide +kernel)) (pi_list (pv 3)) (blkOk_by (N := ["words", "names", "phrases", "rows", "parts", "row"]) (sc := defScope sTest) (by decide +kernel))
          (fun _ _ _ _ _ => pg_name (i := 5) scTest.nd rfl (.inl rfl)) (fun _ _ _ _ _ => pts_nil) (fun _ _ _ _ _ => pe_call OP hr rfl PP.g PP.u.kp PP.b .nil pass0 (pa_cons (pv 5) (pa_cons (pv 1) (pa_cons (pv 2) pa_nil)))))
      (pss_cons (ps_if (pt_cmpR (op_inD hu65) pe_non (pv 4) (by rfl)) (pss_one (ps_ret pe_non)) pss_nil)
      (pss_one (ps_ret (pe_callTy call_tuple_of (by rfl) T.tuple (by decide +kernel) (pa_cons (pv 4) pa_nil))))))), ?_⟩
    refine ⟨_, rfl, wl, ws, rfl, hw, pl.few, fun ra as H1 s1 hra R => ?_⟩
    refine ⟨_, rfl, ra, _, rfl, .inl (SqL.of hra), _, _, rfl, rfl, _, rfl, ?_⟩
    rw [List.length_map, R.len]
    refine ite2 (fun g => ?_) (fun g => ?_)
    · have := dt g
      refine k _ _ s1 ?_
      unfold testD
      rw [if_pos (by omega)]
      exact .non
    have h4 : ¬ 4 < (splitW ws).length := by have := df g; omega
    refine ⟨_, rfl, ra, rfl, ⟨_, SqL.of hra⟩, fun D hD => lc_list (K := K) (a := ra) (xs := as.map V.ref) (fun i G => Same H1 G ∧ ∃ acc, G D = some (.lst acc) ∧ TDs K G acc (((splitW ws).take i).map fun g => partD g ns phr) ∧ acc.length = i) ⟨same_new hD, [], upd_same, .nil, rfl⟩ (fun i G _ ⟨sG, _⟩ => SqL.of (sG _ _ hra)) ?_ ?_⟩
    · rintro i x G hi ⟨sG, acc, hDG, td, la⟩
      have hi' : i < as.length := by
        have := (List.getElem?_eq_some_iff.mp hi).1
        rwa [List.length_map] at this
      obtain ⟨b, hb⟩ : ∃ b, as[i]? = some b := ⟨as[i], List.getElem?_eq_getElem hi'⟩
      rw [List.getElem?_map, hb] at hi
      cases hi
      obtain ⟨g, hg, hbg⟩ := R.get i hb
      have gp : Plain g := go_plain ws [] [] (fun _ h => absurd h List.not_mem_nil) pl g (List.mem_of_getElem? hg)
      have s0G := s1.trans sG
      refine ⟨rfl, ?_⟩
      refine ⟨_, rfl, _, rfl, _, rfl, b, pn, ph, g, ns, phr, rfl, SqL.of (sG _ _ hbg), Same.tup s0G hn, s0G _ _ hph, gp, fun v G2 s2 t2 => ?_⟩
      have hD2 := s2 _ _ hDG
      refine ⟨acc, hD2, (by rw [sizeLine_eq]; rw [R.len] at hi'; omega), fun c o e => ?_, acc ++ [v], upd_same, ?_, ?_⟩
      · rw [upd_ne (fun y => by rw [y, hD] at e; cases e)]
        exact s2 _ _ (sG _ _ e)
      · have kk : KeepT G2 (upd G2 D (.lst (acc ++ [v]))) := KeepT.lst hD2
        rw [List.take_add_one, hg, List.map_append]
        exact TDs.snoc (t2.keep kk) (td.keep ((KeepT.of s2).trans kk))
      · rw [List.length_append, la]; rfl
    · rintro G ⟨sG, acc, hDG, td, la⟩
      rw [List.length_map, R.len, List.take_length] at td
      have s0G := s1.trans sG
      obtain ⟨l1, l2⟩ := parts_lay W (splitW ws)
      refine ⟨_, rfl, .none, _, .non, .lst (SqL.of hDG) td.dp, (by decide +kernel), ?_, _, rfl, ?_⟩
      · unfold SeqAt.shaped
        rw [Bool.and_eq_true]
        refine ⟨l1, decide_eq_true ?_⟩
        simp only [PyData.depth]
        omega
      rw [any_none]
      have e4 : testD ws ns phr = if ((splitW ws).map fun g => partD g ns phr).any isNoneD = true then .none else .tuple ((splitW ws).map fun g => partD g ns phr) := by
        unfold testD
        rw [if_neg h4]
      refine ite2 (fun g => ?_) (fun g => ?_)
      · rw [if_pos g] at e4
        exact k _ _ s0G (by rw [e4]; exact .non)
      · rw [if_neg g] at e4
        refine ⟨_, rfl, D, acc, rfl, .inl ⟨SqL.of hDG, fun t ht => ?_⟩⟩
        refine k _ _ (s0G.trans (same_new ht)) ?_
        rw [e4]
        exact .tup (SqT.of upd_same) (td.keep (KeepT.of (same_new ht)))
end
end IdL
namespace IdL
open PySem L2 TL PySem.Spec PyProof.Rows
theorem at_back {α : Type} (xs : List α) (k : Nat) (h : 0 < k) (hk : k ≤ xs.length) : atI xs (-(k : Int)) = xs[xs.length - k]? := by
  unfold atI ixN
  rw [if_neg (by omega), if_pos (by omega)]
  have e : (-(k : Int) + (xs.length : Int)).toNat = xs.length - k := by omega
  show xs[(-(k : Int) + (xs.length : Int)).toNat]? = _
  rw [e]
/-! ### dict(d), d a dict of the module with texts for texts -/
inductive EsIs : List DictEntry → List (Str × Str) → Prop
  | nil : EsIs [] []
  | cons {e : DictEntry} {x y : Str} {t u : Tok} {es : List DictEntry} {phr : List (Str × Str)} : e.key = .str x t → e.val = .str y u → EsIs es phr → EsIs (e :: es) ((x, y) :: phr)
theorem EsIs.pairs {P : Program} {w : World} : ∀ {es : List DictEntry} {phr : List (Str × Str)}, EsIs es phr → ∃ vs : List (Key × Value), Pairs (mixKind P w) es vs ∧ KV (phrK phr) vs ∧ vs.map (·.1) = phr.map fun p => (Sum.inr p.1 : Key)
  | _, _, .nil => ⟨[], .nil, .nil, rfl⟩
  | _, _, .cons (e := e) (x := x) (y := y) (t := t) (u := u) hk hv r => by
    obtain ⟨vs, h1, h2, h3⟩ := EsIs.pairs r
    refine ⟨(.inr x, e.val) :: vs, .cons ?_ rfl h1, .cons ⟨rfl, ?_⟩ h2, ?_⟩
    · rw [hk]; exact keyIs_str x t
    · rw [hv]; exact ⟨u, rfl⟩
    · rw [List.map_cons, List.map_cons, h3]
theorem inr_nodup : ∀ {l : List Str}, l.Nodup → (l.map fun x => (Sum.inr x : Key)).Nodup
  | [], _ => List.nodup_nil
  | x :: l, h => by
    rw [List.map_cons, List.nodup_cons]
    obtain ⟨h1, h2⟩ := List.nodup_cons.mp h
    refine ⟨fun z => ?_, inr_nodup h2⟩
    obtain ⟨y, hy, e⟩ := List.mem_map.mp z
    cases e
    exact h1 hy
section
variable {X : Cx}
theorem call_dictK : CallR X (.type "dict") (fun xs H Q => ∃ (a : Addr) (es : Array DictEntry) (n : Nat) (phr : List (Str × Str)), xs = [.ref a] ∧ KDict X.K X.w a es n ∧ EsIs es.toList phr ∧ (phr.map (·.1)).Nodup ∧ phr.length ≤ sizeLine ∧ ∀ p, H p = none → Q (.ref p) (upd H p (.dK (phrK phr)))) := by
  intro pins s σ H xs us Q I r q
  obtain ⟨a, es, n, phr, ex, D, he, hn, hz, q⟩ := q
  subst ex
  obtain ⟨u, eu, rx⟩ := vals1 r
  subst eu
  cases rx
  obtain ⟨vs, hp, hkv, hks⟩ := EsIs.pairs (P := X.prog) (w := X.w) he
  have dd : s.heap.DictOf (mixKind X.prog X.w) a vs := ⟨_, es, n, I.kIn _ _ D.at_, ⟨rfl, rfl, rfl⟩, rfl, fun e he => by
    obtain ⟨x, t, e1, e2⟩ := D.lit.all e (Array.mem_toList_iff.mpr he)
    exact ⟨.inr x, by rw [e1]; exact keyIs_str x t, e2⟩, hp, by rw [hks]; have := inr_nodup hn; rwa [List.map_map] at this⟩
  have lv : vs.length = phr.length := by have := congrArg List.length hks; rwa [List.length_map, List.length_map] at this
  refine kt_call_dict D.low dd (by rw [lv]; exact hz) fun h' d' hs => ?_
  have hm : (s.heap.objs.size == sysModules) = false := beq_eq_false_iff_ne.mpr (Nat.ne_of_gt I.big)
  exact ⟨.ref s.heap.objs.size, upd H s.heap.objs.size (.dK (phrK phr)), I.laid (t' := s.toks) (fun b u e => (hs.2 b (Nat.ne_of_lt (Heap.lt_size e))).trans (Heap.get?_push_of_some _ e)) (Nat.le_refl _)
    (show ObjOk X.prog X.w _ _ _ (.dK (phrK phr)) from ⟨by unfold phrK; rw [List.length_map]; exact hz, hm, vs, hkv, d'⟩), rfl, q _ (I.hok.fresh (Nat.le_refl _))⟩
end
end IdL
namespace IdL
open PySem L2 TL
/-! ### blocks: the stack and the jumps -/
inductive PairsAt (H : Hp) : List Addr → List (Int × Int) → Prop
  | nil : PairsAt H [] []
  | cons {a : Addr} {p : Int × Int} {as : List Addr} {ps : List (Int × Int)} : H a = some (.tup [.int p.1, .int p.2]) → PairsAt H as ps → PairsAt H (a :: as) (p :: ps)
theorem PairsAt.keep {H H' : Hp} : ∀ {as : List Addr} {ps : List (Int × Int)}, PairsAt H as ps → (∀ a xs, H a = some (.tup xs) → H' a = some (.tup xs)) → PairsAt H' as ps
  | _, _, .nil, _ => .nil
  | _, _, .cons h t, k => .cons (k _ _ h) (t.keep k)
theorem PairsAt.snoc {H : Hp} {b : Addr} {p : Int × Int} (e : H b = some (.tup [.int p.1, .int p.2])) : ∀ {as : List Addr} {ps : List (Int × Int)}, PairsAt H as ps → PairsAt H (as ++ [b]) (ps ++ [p])
  | _, _, .nil => .cons e .nil
  | _, _, .cons h t => .cons h (t.snoc e)
theorem PairsAt.len {H : Hp} : ∀ {as : List Addr} {ps : List (Int × Int)}, PairsAt H as ps → as.length = ps.length
  | _, _, .nil => rfl
  | _, _, .cons _ t => by rw [List.length_cons, List.length_cons, t.len]
theorem PairsAt.last {H : Hp} : ∀ {ps : List (Int × Int)} {as : List Addr} {p : Int × Int}, PairsAt H as (ps ++ [p]) → ∃ as' a, as = as' ++ [a] ∧ PairsAt H as' ps ∧ H a = some (.tup [.int p.1, .int p.2])
  | [], _, p, .cons (a := a) h t => by cases t; exact ⟨[], a, rfl, .nil, h⟩
  | q :: ps, _, p, .cons (a := a) h t => by
    obtain ⟨as', b, rfl, t', hb⟩ := t.last
    exact ⟨a :: as', b, rfl, .cons h t', hb⟩
/-- a stack of pairs stands at s -/
def StkAt (H : Hp) (s : Addr) (ps : List (Int × Int)) : Prop := ∃ as : List Addr, H s = some (.lst (as.map V.ref)) ∧ PairsAt H as ps
/-- all that stood stands, but two -/
def But2 (s j : Addr) (H H' : Hp) : Prop := ∀ a o, a ≠ s → a ≠ j → H a = some o → H' a = some o
def sElse : Str := "else"
def sEnd : Str := "end"
def closeM (el : Bool) (line : Int) (stk : List (Int × Int)) (jmp : List (Key × V)) : Option (List (Int × Int) × List (Key × V)) :=
  match stk.getLast? with
  | none => none
  | some p => if el = true then (if p.2 = 0 then some (stk.dropLast ++ [(p.1, line)], putK jmp (.inl p.1) (.int (line + 1))) else none)
    else some (stk.dropLast, putK jmp (.inl (if p.2 = 0 then p.1 else p.2)) (.int line))
abbrev sClose : Stmt := top 66
theorem scClose : FnScope ["form", "line", "stack", "jumps", "start", "middle"] ["form", "line", "stack", "jumps"] (defScope sClose) := ⟨rfl, rfl, rfl, by decide +kernel, rfl, by decide +kernel, by decide +kernel⟩
def oneD (x : Str) : PyData := .tuple [.str x]
def spClose (K : PySem.W.Frag) : Sp := fun vs H Q _ => ∃ (fa : V) (line : Int) (sa jd : Addr) (el : Bool) (stk : List (Int × Int)) (jmp : List (Key × V)), vs = [fa, .int line, .ref sa, .ref jd] ∧ TD K H fa (oneD (if el = true then sElse else sEnd)) ∧ StkAt H sa stk ∧ H jd = some (.dK jmp) ∧ jmp.length < sizeLine ∧
  (closeM el line stk jmp = none → ∀ H', Same H H' → Q (.bl false) H') ∧ (∀ stk' jmp' H', closeM el line stk jmp = some (stk', jmp') → But2 sa jd H H' → StkAt H' sa stk' → H' jd = some (.dK jmp') → Q (.bl true) H')
section
variable {P : Program} {w : World} {K : PySem.W.Frag} {mg : Str → Option Value} {base : Heap}
theorem ok_close {f : Addr} {fd : FuncData} (F : Fun K "close_block" "close_block" sClose f fd) : FnOk P w K mg base CX0 1 f fd ["form", "line", "stack", "jumps"] (spClose K) := by
  refine F.ok scClose (fun vs H Q E h => ?_) (fun cdv A outer s H vs Q E hr h => ?_)
  · obtain ⟨fa, line, sa, jd, el, stk, jmp, rfl, _⟩ := h
    rfl
  · obtain ⟨fa, line, sa, jd, el, stk, jmp, rfl, tf, ⟨as, hsa, R⟩, hjd, jl, kn, ks⟩ := h
    have hu := hu_of hr
    have nsj : sa ≠ jd := fun y => by rw [y, hjd] at hsa; cases hsa
    refine ⟨_, pss_cons (ps_if (pt_not (pt_truth (pv 2) (by intro _; rfl))) (pss_one (ps_ret pe_bl)) pss_nil)
      (pss_cons (ps_asg (pe_ix ix_list (pv 2) (pe_un un_neg pe_int) (fun _ _ => rfl)) (pg_tup rfl (pgs_cons (pg_name (i := 4) scClose.nd rfl (.inl rfl)) (pgs_cons (pg_name (i := 5) scClose.nd rfl (.inl rfl)) pgs_nil))))
      (pss_cons (ps_if (pt_cmpR (op_eqD hr.units) (pv 0) (pe_tup (pa_cons pe_str pa_nil)) (nomark _))
        (pss_cons (ps_if (pt_cmpR op_ne (pv 5) pe_int (nomark _)) (pss_one (ps_ret pe_bl)) pss_nil)
        (pss_cons (ps_dput hu (pv 3) (pv 4) (pe_op op_add (pv 1) pe_int) rfl)
        (pss_cons (ps_asg (pe_tup (pa_cons (pv 4) (pa_cons (pv 1) pa_nil))) (pg_sub (pv 2) (pe_un un_neg pe_int) set_list))
        (pss_one (ps_ret pe_bl))))) pss_nil)
      (pss_cons (ps_dput hu (pv 3) (pe_ifExp (pt_cmpR op_eq (pv 5) pe_int (nomark _)) (pv 4) (pv 5)) (pv 1) rfl)
      (pss_cons (ps_expr (pe_bm0 PySem.F.plainAttrs_list PySem.F.slot_list_pop PySem.F.type_list_pop mt_pop (pv 2)))
      (pss_one (ps_ret pe_bl)))))), ?_⟩
    refine ⟨_, rfl, !(as.map V.ref).isEmpty, .inl ⟨_, SqL.of hsa, rfl⟩, ?_⟩
    rcases List.eq_nil_or_concat stk with e0 | ⟨ps, p, e0⟩
    · subst e0
      cases R
      exact iteT (kn rfl _ (Same.refl H))
    · rw [List.concat_eq_append] at e0
      subst e0
      obtain ⟨as', a, rfl, R', ha⟩ := R.last
      have em : closeM el line (ps ++ [p]) jmp = if el = true then (if p.2 = 0 then some (ps ++ [(p.1, line)], putK jmp (.inl p.1) (.int (line + 1))) else none)
          else some (ps, putK jmp (.inl (if p.2 = 0 then p.1 else p.2)) (.int line)) := by
        unfold closeM
        rw [List.getLast?_append, List.dropLast_concat]; rfl
      have ene : (!((as' ++ [a]).map V.ref).isEmpty) = true := by rw [List.map_append]; cases as' <;> rfl
      rw [ene]
      refine iteF ?_
      have alast : atI ((as' ++ [a]).map V.ref) (-1) = some (.ref a) := by rw [List.map_append]; exact atI_last _ _
      refine ⟨_, rfl, _, rfl, sa, _, _, .ref a, rfl, rfl, SqL.of hsa, alast, a, _, rfl, SqT.of ha, rfl, _, _, rfl, _, _, rfl, rfl, ?_⟩
      refine ⟨_, rfl, (by show 1 ≤ sizeLine; decide), fun t ht => ?_⟩
      have s1 : Same H _ := same_new (o := .tup [.str sElse]) ht
      have t1 : upd H t (.tup [.str sElse]) t = some (.tup [.str sElse]) := upd_same
      show rEqD _ _ _ (upd H t (.tup [.str sElse])) _
      generalize upd H t (.tup [.str sElse]) = H1 at *
      have hsa1 := s1 _ _ hsa
      have hjd1 := s1 _ _ hjd
      have R1 := R'.keep fun b xs e => s1 b _ e
      refine ⟨_, _, (tf.keep (KeepT.of s1)).dp, .tup (SqT.of t1) (.cons (.str _) .nil), (by cases el <;> decide +kernel), (by decide +kernel), _, rfl, ?_⟩
      cases el with
      | true =>
        refine iteT ?_
        rw [if_pos rfl] at em
        refine ⟨_, rfl, rfl, _, rfl, ?_⟩
        rw [dec_i]
        by_cases h0 : p.2 = 0
        · rw [if_pos h0] at em
          refine iteNS h0 ?_
          refine ⟨_, rfl, _, _, rfl, rfl, _, rfl, _, rfl, jd, _, rfl, DPut.k (k := Sum.inl p.1) hjd1 jl, ?_⟩
          have hj2 : upd H1 jd (.dK (putK jmp (.inl p.1) (.int (line + 1)))) jd = some (.dK (putK jmp (.inl p.1) (.int (line + 1)))) := upd_same
          have b2 : ∀ c o, c ≠ jd → H1 c = some o → upd H1 jd (.dK (putK jmp (.inl p.1) (.int (line + 1)))) c = some o := fun c o n e => by rw [upd_ne n]; exact e
          generalize upd H1 jd (.dK (putK jmp (.inl p.1) (.int (line + 1)))) = H2 at *
          have hsa2 := b2 _ _ nsj hsa1
          refine ⟨_, rfl, _, rfl, (by show 2 ≤ sizeLine; decide), fun T hT => ?_⟩
          have s3 : Same H2 _ := same_new (o := .tup [.int p.1, .int line]) hT
          have t3 : upd H2 T (.tup [.int p.1, .int line]) T = some (.tup [.int p.1, .int line]) := upd_same
          show (fun v => gSub _ _ _ v _ (upd H2 T (.tup [.int p.1, .int line])) _) _
          generalize upd H2 T (.tup [.int p.1, .int line]) = H3 at *
          have hsa3 := s3 _ _ hsa2
          refine ⟨_, rfl, _, rfl, sa, _, _, as'.length, rfl, rfl, hsa3, ?_, ?_⟩
          · unfold ixN
            rw [List.length_map, List.length_append]
            show (if (0 : Int) ≤ -1 then _ else if -((as'.length + 1 : Nat) : Int) ≤ -1 then some (-1 + ((as'.length + 1 : Nat) : Int)).toNat else none) = _
            rw [if_neg (by decide), if_pos (by omega)]
            congr 1
            omega
          · have e3 : ((as' ++ [a]).map V.ref).set as'.length (.ref T) = (as' ++ [T]).map V.ref := by
              rw [List.map_append, List.map_append, List.set_append_right _ _ (by rw [List.length_map]; exact Nat.le_refl _), List.length_map, Nat.sub_self]; rfl
            rw [e3]
            refine ks _ _ _ em (fun c o n1 n2 e => ?_) ⟨_, upd_same, PairsAt.snoc (p := (p.1, line)) ?_ (R1.keep fun b xs e => ?_)⟩ ?_
            · rw [upd_ne n1]; exact s3 _ _ (b2 _ _ n2 (s1 _ _ e))
            · rw [upd_ne (fun y => by rw [y, hsa3] at t3; cases t3)]; exact t3
            · rw [upd_ne (fun y => by rw [y, hsa1] at e; cases e)]; exact s3 _ _ (b2 _ _ (fun y => by rw [y, hjd1] at e; cases e) e)
            · rw [upd_ne nsj.symm]; exact s3 _ _ hj2
        · rw [if_neg h0] at em
          exact iteNN h0 (kn em _ s1)
      | false =>
        refine iteF ?_
        rw [if_neg Bool.false_ne_true] at em
        refine ⟨_, rfl, _, rfl, _, rfl, rfl, _, rfl, ?_⟩
        have pop : ∀ kx, closeM false line (ps ++ [p]) jmp = some (ps, putK jmp (.inl kx) (.int line)) →
            (upd H1 jd (.dK (putK jmp (.inl kx) (.int line)))) sa = some (.lst ((as' ++ [a]).map V.ref)) ∧ Q (.bl true) (upd (upd H1 jd (.dK (putK jmp (.inl kx) (.int line)))) sa (.lst ((as' ++ [a]).map V.ref).dropLast)) := fun kx e => by
          have hsa2 : upd H1 jd (.dK (putK jmp (.inl kx) (.int line))) sa = some (.lst ((as' ++ [a]).map V.ref)) := by rw [upd_ne nsj]; exact hsa1
          refine ⟨hsa2, ks _ _ _ e (fun c o n1 n2 e => ?_) ⟨as', ?_, R1.keep fun b xs e => ?_⟩ ?_⟩
          · rw [upd_ne n1, upd_ne n2]; exact s1 _ _ e
          · rw [upd_same, List.map_append]; exact congrArg (fun l => some (HO.lst l)) (List.dropLast_concat ..)
          · rw [upd_ne (fun y => by rw [y, hsa1] at e; cases e), upd_ne (fun y => by rw [y, hjd1] at e; cases e)]; exact e
          · rw [upd_ne nsj.symm, upd_same]
        have elast : ((as' ++ [a]).map V.ref)[((as' ++ [a]).map V.ref).length - 1]? = some (.ref a) := by
          rw [List.map_append, List.length_append]
          show (as'.map V.ref ++ [V.ref a])[(as'.map V.ref).length + 1 - 1]? = _
          rw [Nat.add_sub_cancel, List.getElem?_append_right (Nat.le_refl _), Nat.sub_self]; rfl
        rw [dec_i]
        by_cases h0 : p.2 = 0
        · rw [if_pos h0] at em
          obtain ⟨p1, p2⟩ := pop _ em
          exact iteY h0 ⟨_, rfl, jd, _, rfl, DPut.k (k := Sum.inl p.1) hjd1 jl, _, rfl, .inl ⟨rfl, _, SqL.of p1⟩, sa, _, _, rfl, rfl, p1, elast, p2⟩
        · rw [if_neg h0] at em
          obtain ⟨p1, p2⟩ := pop _ em
          exact iteN h0 ⟨_, rfl, jd, _, rfl, DPut.k (k := Sum.inl p.2) hjd1 jl, _, rfl, .inl ⟨rfl, _, SqL.of p1⟩, sa, _, _, rfl, rfl, p1, elast, p2⟩
end
end IdL
namespace IdL
open PySem L2 TL
/-- a reader of lines: what it reads words to -/
def spRead (K : PySem.W.Frag) (rd : List Str → PyData) : Sp := fun vs H Q _ => ∃ (wl : Addr) (ws : List Str), vs = [.ref wl] ∧ ws ≠ [] ∧ SqL K H wl (ws.map V.str) ∧ Plain ws ∧
  ∀ v H', Same H H' → TD K H' v (rd ws) → Q v H'
def headW : PyData → Str
  | .tuple (.str w :: _) => w
  | _ => ""
/-- what a reader may read words to -/
def ReadOk (d : PyData) : Prop := d = .none ∨ ∃ (w : Str) (r : List PyData), d = .tuple (.str w :: r) ∧ (w = sElse ∨ w = sEnd → r = [])
def rowD (rd : List Str → PyData) (row : Str) : PyData := if ("" : Str) ∈ Txt.split row " " then .none else rd (Txt.split row " ")
def formsGo (rd : List Str → PyData) : List Str → Nat → List PyData → List (Int × Int) → List (Key × V) → Except Nat (List PyData × List (Key × V))
  | [], i, fs, stk, jmp => if stk.isEmpty = true then .ok (fs, jmp) else .error (i + 1)
  | row :: rows, i, fs, stk, jmp => if isNoneD (rowD rd row) = true then .error (i + 1) else
    if headW (rowD rd row) = "if" then formsGo rd rows (i + 1) (fs ++ [rowD rd row]) (stk ++ [((i : Int) + 1, 0)]) jmp
    else if headW (rowD rd row) = sElse ∨ headW (rowD rd row) = sEnd then
      match closeM (decide (headW (rowD rd row) = sElse)) ((i : Int) + 1) stk jmp with
      | none => .error (i + 1)
      | some q => formsGo rd rows (i + 1) (fs ++ [rowD rd row]) q.1 q.2
    else formsGo rd rows (i + 1) (fs ++ [rowD rd row]) stk jmp
theorem formsGo_cons (rd : List Str → PyData) (row : Str) (rows : List Str) (i : Nat) (fs : List PyData) (stk : List (Int × Int)) (jmp : List (Key × V)) : formsGo rd (row :: rows) i fs stk jmp = if isNoneD (rowD rd row) = true then .error (i + 1) else
    if headW (rowD rd row) = "if" then formsGo rd rows (i + 1) (fs ++ [rowD rd row]) (stk ++ [((i : Int) + 1, 0)]) jmp
    else if headW (rowD rd row) = sElse ∨ headW (rowD rd row) = sEnd then
      match closeM (decide (headW (rowD rd row) = sElse)) ((i : Int) + 1) stk jmp with
      | none => .error (i + 1)
      | some q => formsGo rd rows (i + 1) (fs ++ [rowD rd row]) q.1 q.2
    else formsGo rd rows (i + 1) (fs ++ [rowD rd row]) stk jmp := rfl
/-! ### a row's words are plain -/
theorem spl_sum (S : List Nat) : ∀ (l : List Nat) (k : Nat) (acc : List Nat), ((spl S k acc l).map List.length).sum + (spl S k acc l).length ≤ acc.length + l.length + 1
  | [], k, acc => by rw [spl_nil]; simp
  | c :: r, 0, acc => by
    cases h : pre S (c :: r) with
    | true =>
      rw [spl_hit h]
      have := spl_sum S r (S.length - 1) []
      simp only [List.map_cons, List.sum_cons, List.length_cons, List.length_nil] at this ⊢
      omega
    | false =>
      rw [spl_miss h]
      have := spl_sum S r 0 (acc ++ [c])
      simp only [List.length_append, List.length_cons, List.length_nil] at this ⊢
      omega
  | c :: r, k + 1, acc => by
    have e : spl S (k + 1) acc (c :: r) = spl S k acc r := rfl
    rw [e]
    have := spl_sum S r k acc
    simp only [List.length_cons] at this ⊢
    omega
theorem spl_mem (S : List Nat) : ∀ (l : List Nat) (k : Nat) (acc : List Nat), ∀ p ∈ spl S k acc l, ∀ c ∈ p, c ∈ acc ∨ c ∈ l
  | [], k, acc, p, hp, c, hc => by
    rw [spl_nil] at hp
    rw [List.mem_singleton.mp hp] at hc
    exact .inl hc
  | d :: r, 0, acc, p, hp, c, hc => by
    cases h : pre S (d :: r) with
    | true =>
      rw [spl_hit h] at hp
      rcases List.mem_cons.mp hp with e | hp
      · rw [e] at hc; exact .inl hc
      · rcases spl_mem S r _ [] p hp c hc with h | h
        · cases h
        · exact .inr (List.mem_cons_of_mem _ h)
    | false =>
      rw [spl_miss h] at hp
      rcases spl_mem S r 0 _ p hp c hc with h | h
      · rcases List.mem_append.mp h with h | h
        · exact .inl h
        · rw [List.mem_singleton.mp h]; exact .inr (List.mem_cons_self ..)
      · exact .inr (List.mem_cons_of_mem _ h)
  | d :: r, k + 1, acc, p, hp, c, hc => by
    have e : spl S (k + 1) acc (d :: r) = spl S k acc r := rfl
    rw [e] at hp
    rcases spl_mem S r k acc p hp c hc with h | h
    · exact .inl h
    · exact .inr (List.mem_cons_of_mem _ h)
theorem blank_ne : tl (" " : Str) ≠ [] := by decide +kernel
theorem split_blank (row : Str) : (Txt.split row " ").map tl = spl (tl " ") 0 [] (tl row) := split_spl row " " blank_ne (kind_ok (by decide +kernel))
theorem row_plain {row : Str} (a : Asc row) (h : row.length ≤ 900000) : Plain (Txt.split row " ") := by
  have e := split_blank row
  refine ⟨fun z hz c hc => ?_, ?_⟩
  · have hm : tl z ∈ (Txt.split row " ").map tl := List.mem_map_of_mem hz
    rw [e] at hm
    rcases spl_mem _ _ _ _ _ hm c hc with h | h
    · cases h
    · exact a c h
  · have h1 : (Txt.split row " ").map (·.length) = ((Txt.split row " ").map tl).map List.length := by
      rw [List.map_map]
      exact List.map_congr_left fun z _ => len_tl z
    have h2 : (Txt.split row " ").length = ((Txt.split row " ").map tl).length := by rw [List.length_map]
    rw [h1, h2, e]
    have := spl_sum (tl " ") (tl row) 0 []
    rw [len_tl] at h
    simp only [List.length_nil] at this
    omega
theorem spl_ne (S : List Nat) : ∀ (l : List Nat) (k : Nat) (acc : List Nat), spl S k acc l ≠ []
  | [], k, acc => by rw [spl_nil]; exact List.cons_ne_nil _ _
  | c :: r, 0, acc => by
    cases h : pre S (c :: r) with
    | true => rw [spl_hit h]; exact List.cons_ne_nil _ _
    | false => rw [spl_miss h]; exact spl_ne S r _ _
  | c :: r, k + 1, acc => spl_ne S r k acc
theorem row_ne (row : Str) : Txt.split row " " ≠ [] := fun z => by
  have e := split_blank row
  rw [z] at e
  exact spl_ne _ _ _ _ e.symm
/-- an error class, as read and as built -/
structure BErr (P : Program) (K : PySem.W.Frag) (mg : Str → Option Value) (x qual : Str) (st : Stmt) (fs : List Str) (C fI : Addr) : Prop where
  T : Er.Txt P K C fI qual st fs
  F : Er.Form st fs
  g : mg x = some (.ref C)
abbrev stLine : Stmt := inClass (top 3) 0
end IdL
namespace IdL
open PySem L2 TL
def KTup (K : PySem.W.Frag) (a : Addr) (xs : List V) : Prop := ∃ (o : Obj) (its : Array Value) (n : Nat), K.lookup a = some o ∧ o.cls = .type "tuple" ∧ o.data = .seq its n ∧ its.size ≤ sizeLine ∧ Vals xs its.toList
theorem KTup.sq {K : PySem.W.Frag} {a : Addr} {xs : List V} (h : KTup K a xs) {H : Hp} : SqT K H a xs := .inr h
theorem TD.isN {K : PySem.W.Frag} {H : Hp} {v : V} {d : PyData} (h : TD K H v d) : v = .non ↔ isNoneD d = true := by
  cases h with
  | non => exact ⟨fun _ => rfl, fun _ => rfl⟩
  | bl b => exact ⟨(fun y => nomatch y), (fun y => nomatch y)⟩
  | int b => exact ⟨(fun y => nomatch y), (fun y => nomatch y)⟩
  | str b => exact ⟨(fun y => nomatch y), (fun y => nomatch y)⟩
  | tup a b => exact ⟨(fun y => nomatch y), (fun y => nomatch y)⟩
theorem isNoneD_eq {d : PyData} (h : isNoneD d = true) : d = .none := by cases d <;> first | rfl | cases h
theorem TDs.get {K : PySem.W.Frag} {H : Hp} : ∀ {vs : List V} {ds : List PyData} (t : TDs K H vs ds) (i : Nat) {v : V}, vs[i]? = some v → ∃ d, ds[i]? = some d ∧ TD K H v d
  | _, _, .cons h t, 0, v, e => by cases e; exact ⟨_, rfl, h⟩
  | _, _, .cons h t, i + 1, v, e => TDs.get t i e
theorem TD.tupl {K : PySem.W.Frag} {H : Hp} {v : V} {ds : List PyData} (h : TD K H v (.tuple ds)) : ∃ a xs, v = .ref a ∧ SqT K H a xs ∧ TDs K H xs ds := by
  cases h with
  | tup a b => exact ⟨_, _, rfl, a, b⟩
theorem at_0 (x : Str) (r : List Str) : atI ((x :: r).map V.str) 0 = some (.str x) := atI_nat (j := 0) rfl
theorem cut_1 {H : Hp} {p : Addr} {x : Str} {r : List Str} : upd H p (.lst (cutV ((x :: r).map V.str) (some 1) none)) p = some (.lst (r.map V.str)) := by
  rw [upd_same, show cutV ((x :: r).map V.str) (some 1) none = ((x :: r).map V.str).drop 1 from cut_from _ 1]
  rfl
theorem cut_2 {H : Hp} {p : Addr} {x e : Str} {r : List Str} : upd H p (.lst (cutV ((x :: e :: r).map V.str) (some 2) none)) p = some (.lst (r.map V.str)) := by
  rw [upd_same, show cutV ((x :: e :: r).map V.str) (some 2) none = ((x :: e :: r).map V.str).drop 2 from cut_from _ 2]
  rfl
end IdL
namespace IdL
open PySem L2 TL
theorem at_hd (x : V) (r : List V) : atI (x :: r) 0 = some x := atI_nat (j := 0) rfl
def sBlk : List Str := [sElse, sEnd]
theorem close_len {el : Bool} {line : Int} {stk stk' : List (Int × Int)} {jmp jmp' : List (Key × V)} (h : closeM el line stk jmp = some (stk', jmp')) : stk'.length ≤ stk.length ∧ jmp'.length ≤ jmp.length + 1 := by
  unfold closeM at h
  cases e : stk.getLast? with
  | none => rw [e] at h; cases h
  | some p =>
    rw [e] at h
    have ne : stk ≠ [] := fun z => by rw [z] at e; cases e
    have hl : 0 < stk.length := List.length_pos_iff.mpr ne
    dsimp only at h
    split at h
    · split at h
      · cases h
        exact ⟨by rw [List.length_append, List.length_dropLast]; simp only [List.length_cons, List.length_nil]; omega, put_len _ _ _⟩
      · cases h
    · cases h
      exact ⟨by rw [List.length_dropLast]; omega, put_len _ _ _⟩
abbrev sForms : Stmt := top 67
theorem scForms : FnScope ["rows", "read_line", "forms", "jumps", "stack", "at", "row", "words", "form"] ["rows", "read_line"] (defScope sForms) := ⟨rfl, rfl, rfl, by decide +kernel, rfl, by decide +kernel, by decide +kernel⟩
/-- a def that reads words, as it is handed on -/
structure Rdr (P : Program) (w : World) (K : PySem.W.Frag) (mg : Str → Option Value) (base : Heap) (n : Nat) (f : Addr) (rd : List Str → PyData) : Prop where
  ex : ∃ fd, FnOk P w K mg base CX0 n f fd ["words"] (spRead K rd) ∧ Binds K fd ["words"] []
  kp : PySem.W.keepIn K (.ref f) = true
  ok : ∀ ws, ReadOk (rd ws)
structure Rows (rs : List Str) : Prop where
  asc : ∀ z ∈ rs, Asc z
  len : ∀ z ∈ rs, z.length ≤ 900000
  few : rs.length ≤ 100000
def lineErr (C : Addr) (n : Nat) (H : Hp) (E : XK) : Prop := ∀ (d : Addr) (H' : Hp), Same H H' → H' d = some (.xd [("line", .int (n : Int))]) → E (.ref C) (some d) H'
structure FSpaced (K : PySem.W.Frag) (mg : Str → Option Value) (f : Addr) (d : FuncData) : Prop where
  u : Fun K "is_spaced" "is_spaced" sSpaced f d
  b : Binds K d ["words"] []
  g : mg "is_spaced" = some (.ref f)
structure FClose (K : PySem.W.Frag) (mg : Str → Option Value) (f : Addr) (d : FuncData) : Prop where
  u : Fun K "close_block" "close_block" sClose f d
  b : Binds K d ["form", "line", "stack", "jumps"] []
  g : mg "close_block" = some (.ref f)
def spForms (P : Program) (w : World) (K : PySem.W.Frag) (mg : Str → Option Value) (base : Heap) (n : Nat) (CL : Addr) : Sp := fun vs H Q E => ∃ (ra fr : Addr) (rs : List Str) (rd : List Str → PyData), vs = [.ref ra, .ref fr] ∧ SqL K H ra (rs.map V.str) ∧ Rows rs ∧ Rdr P w K mg base n fr rd ∧
  (∀ ds jmp (fa ja t : Addr) (xs : List V) (H' : Hp), formsGo rd rs 0 [] [] [] = .ok (ds, jmp) → Same H H' → H' fa = some (.lst xs) → TDs K H' xs ds → H' ja = some (.dK jmp) → H' t = some (.tup [.ref fa, .ref ja]) → Q (.ref t) H') ∧
  (∀ m, formsGo rd rs 0 [] [] [] = .error m → lineErr CL m H E)
section
variable {P : Program} {w : World} {K : PySem.W.Frag} {mg : Str → Option Value} {base : Heap}
theorem ok_forms {n : Nat} {f fS fC CL iL : Addr} {fd dS dC : FuncData} (hn : 1 ≤ n) (F : Fun K "read_forms" "read_forms" sForms f fd) (S : FSpaced K mg fS dS) (C : FClose K mg fC dC) (B : BErr P K mg "BadLine" "BadLine.__init__" stLine ["line"] CL iL) (su : mg "super" = none) (T : Glo mg) :
    FnOk P w K mg base (CX P w) (n + 1) f fd ["rows", "read_line"] (spForms P w K mg base n CL) := by
  have OS : FnOk P w K mg base CX0 1 fS dS ["words"] (spSpaced K) := ok_spaced S.u
  have OC : FnOk P w K mg base CX0 1 fC dC ["form", "line", "stack", "jumps"] (spClose K) := ok_close C.u
  refine F.okX scForms (fun vs H Q E h => ?_) (fun cdv A outer s H vs Q E hr h => ?_)
  · obtain ⟨ra, fr, rs, rd, rfl, _⟩ := h
    rfl
  · obtain ⟨ra, fr, rs, rd, rfl, hra, ro, R, kok, kerr⟩ := h
    obtain ⟨fdr, FR, bR⟩ := R.ex
    have hu := hu_of hr
    have hr1 := hr.mono hn
    refine ⟨_, pss_cons (ps_set (i := 2) scForms.nd rfl (.inl rfl) (pe_lst pa_nil))
        (pss_cons (ps_set (i := 3) scForms.nd rfl (.inl rfl) pe_dnewK)
        (pss_cons (ps_set (i := 4) scForms.nd rfl (.inl rfl) (pe_lst pa_nil))
        (pss_cons (ps_for PassesOwn.leaving rfl (pi_enum (by rfl) T.enum (pa_cons (pv 0) pa_nil)) (pg_tup rfl (pgs_cons (pg_name (i := 5) scForms.nd rfl (.inl rfl)) (pgs_cons (pg_name (i := 6) scForms.nd rfl (.inl rfl)) pgs_nil))) (pss_cons (ps_set (i := 7) scForms.nd rfl (.inl rfl) (pe_split (pv 6) pe_str))
        (pss_join (ps_set (i := 8) scForms.nd rfl (.inl rfl) (pe_ifExp (pt_val (pe_call OS hr1 rfl S.g S.u.kp S.b .nil pass0 (pa_cons (pv 7) pa_nil))) (pe_callL (i := 1) FR hr rfl (.inl rfl) R.kp bR .nil pass0 (pa_cons (pv 7) pa_nil)) pe_non))
        (pss_cons (ps_if (pt_cmpR op_isN (pv 8) pe_non (nomark _)) (pss_one (ps_raise rfl (takes_of rfl rfl rfl rfl) (pmk_err B.T B.F (by decide) B.g su hr (pa_cons (pe_op op_add (pv 5) pe_int) pa_nil)))) pss_nil)
        (pss_join (ps_if (pt_cmpR op_eq (pe_ix ix_tup (pv 8) pe_int (fun _ _ => rfl)) pe_str (nomark _)) (pss_one (ps_expr (pe_bm PySem.F.plainAttrs_list PySem.F.slot_list_append PySem.F.type_list_append mt_append (pv 4) (pa_cons (pe_tup (pa_cons (pe_op op_add (pv 5) pe_int) (pa_cons pe_int pa_nil))) pa_nil)))) (pss_one (ps_if (PW.pt (pw_and (pt_cmpR op_in_seq (pe_ix ix_tup (pv 8) pe_int (fun _ _ => rfl)) (pe_tup (pa_cons pe_str (pa_cons pe_str pa_nil))) (by rfl)) (pw_and1 (pt_not (pt_val (pe_call OC hr1 rfl C.g C.u.kp C.b .nil pass0 (pa_cons (pv 8) (pa_cons (pe_op op_add (pv 5) pe_int) (pa_cons (pv 4) (pa_cons (pv 3) pa_nil)))))))))) (pss_one (ps_raise rfl (takes_of rfl rfl rfl rfl) (pmk_err B.T B.F (by decide) B.g su hr (pa_cons (pe_op op_add (pv 5) pe_int) pa_nil)))) pss_nil)))
        (pss_one (ps_expr (pe_bm PySem.F.plainAttrs_list PySem.F.slot_list_append PySem.F.type_list_append mt_append (pv 2) (pa_cons (pv 8) pa_nil)))))))))
        (pss_cons (ps_if (pt_truth (pv 4) (by intro _; rfl)) (pss_one (ps_raise rfl (takes_of rfl rfl rfl rfl) (pmk_err B.T B.F (by decide) B.g su hr (pa_cons (pe_op op_add (pe_callB call_len_seq (by rfl) T.len PySem.boot_len (pa_cons (pv 0) pa_nil)) pe_int) pa_nil)))) pss_nil)
        (pss_one (ps_ret (pe_tup (pa_cons (pv 2) (pa_cons (pv 3) pa_nil))))))))), ?_⟩
    have flies : ∀ m, formsGo rd rs 0 [] [] [] = .error m → ∀ G, Same H G → ∀ d, G d = none → E (.ref CL) (some d) (upd G d (.xd ((["line"] : List Str).zip [V.int (m : Int)]).reverse)) := fun m e G s d hd => kerr m e d _ (s.trans (same_new hd)) upd_same
    refine ⟨Nat.zero_le _, fun fa hfa => ?_⟩
    have s1 : Same H _ := same_new (o := .lst []) hfa
    have f1 : upd H fa (.lst []) fa = some (.lst []) := upd_same
    generalize upd H fa (.lst []) = H1 at *
    intro ja hja
    have s2 : Same H1 _ := same_new (o := .dK []) hja
    have j2 : upd H1 ja (.dK []) ja = some (.dK []) := upd_same
    have f2 := s2 _ _ f1
    generalize upd H1 ja (.dK []) = H2 at *
    refine ⟨Nat.zero_le _, fun sa hsa => ?_⟩
    have s3 : Same H2 _ := same_new (o := .lst []) hsa
    have st3 : upd H2 sa (.lst []) sa = some (.lst []) := upd_same
    have f3 := s3 _ _ f2
    have j3 := s3 _ _ j2
    generalize upd H2 sa (.lst []) = H3 at *
    have s03 : Same H H3 := (s1.trans s2).trans s3
    have ja0 : H ja = none := s1.free hja
    have sa0 : H sa = none := (s1.trans s2).free hsa
    have nfj : fa ≠ ja := fun y => by rw [y, hja] at f1; cases f1
    have nfs : fa ≠ sa := fun y => by rw [y, hsa] at f2; cases f2
    have njs : ja ≠ sa := fun y => by rw [y, hsa] at j2; cases j2
    refine ⟨_, rfl, ra, _, rfl, s03.seq hra, for_it walk_enum (fun i σ G => ∃ (acc : List V) (ds : List PyData) (stk : List (Int × Int)) (jmp : List (Key × V)) (v5 v6 v7 v8 : Option V), σ = [some (.ref ra), some (.ref fr), some (.ref fa), some (.ref ja), some (.ref sa), v5, v6, v7, v8] ∧ Same H G ∧ G fa = some (.lst acc) ∧
      TDs K G acc ds ∧ acc.length = i ∧ G ja = some (.dK jmp) ∧ jmp.length ≤ i ∧ StkAt G sa stk ∧ stk.length ≤ i ∧ formsGo rd rs 0 [] [] [] = formsGo rd (rs.drop i) i ds stk jmp) ⟨[], [], [], [], none, none, none, none, rfl, s03, f3, .nil, rfl, j3, Nat.le_refl _, ⟨[], st3, .nil⟩, Nat.le_refl _, rfl⟩ (fun i σ G _ ⟨_, _, _, _, _, _, _, _, _, sG, _⟩ => sG.seq hra) ?_ ?_⟩
    · rintro i x σ G G4 hi ⟨acc, ds, stk, jmp, v5, v6, v7, v8, rfl, sG, hF, td, la, hJ, lj, hS, ls, em⟩ ⟨T0, xi, yi, rfl, hT, rfl, e1, e2⟩
      have s4 : Same G _ := same_new (o := .tup [xi, yi]) hT
      have hT4 : upd G T0 (.tup [xi, yi]) T0 = some (.tup [xi, yi]) := upd_same
      generalize upd G T0 (.tup [xi, yi]) = G4 at *
      refine ⟨T0, _, rfl, SqT.of hT4, rfl, _, _, rfl, _, _, rfl, rfl, ?_⟩
      cases e1
      rw [List.length_map] at hi
      obtain ⟨row, hz⟩ : ∃ z, rs[i]? = some z := ⟨rs[i], List.getElem?_eq_getElem hi⟩
      have e2 : (rs.map V.str)[i]? = some yi := e2
      rw [List.getElem?_map, hz] at e2
      cases e2
      have rm : row ∈ rs := List.mem_of_getElem? hz
      rw [show rs.drop i = row :: rs.drop (i + 1) from by
        obtain ⟨h1, h2⟩ := List.getElem?_eq_some_iff.mp hz
        rw [← h2]; exact List.drop_eq_getElem_cons h1, formsGo_cons] at em
      have few := ro.few
      have rl := ro.len row rm
      have rp := row_plain (ro.asc row rm) rl
      refine ⟨_, rfl, ⟨_, rfl⟩, _, _, rfl, rfl, rfl, (by rw [sizeLine_eq]; omega), fun wl hwl => ?_⟩
      have s5 : Same G4 _ := same_new (o := .lst ((Txt.split row " ").map V.str)) hwl
      have w5 : upd G4 wl (.lst ((Txt.split row " ").map V.str)) wl = some (.lst ((Txt.split row " ").map V.str)) := upd_same
      show tJoin _ _ _ _ (upd G4 wl (.lst ((Txt.split row " ").map V.str)))
      generalize upd G4 wl (.lst ((Txt.split row " ").map V.str)) = G5 at *
      refine ⟨fun τ G6 => ∃ v, τ = [some (.ref ra), some (.ref fr), some (.ref fa), some (.ref ja), some (.ref sa), some (.int (i : Int)), some (.str row), some (.ref wl), some v] ∧ Same G5 G6 ∧ TD K G6 v (rowD rd row), ?_, ?_⟩
      · refine ⟨_, rfl, wl, _, rfl, SqL.of w5, _, rfl, ?_⟩
        by_cases hb : ("" : Str) ∈ Txt.split row " "
        · refine iteNS hb ⟨_, rfl, Same.refl _, ?_⟩
          rw [show rowD rd row = .none from if_pos hb]
          exact .non
        · refine iteNN hb ⟨rfl, _, rfl, wl, _, rfl, row_ne row, SqL.of w5, rp, fun v G6 s6 t6 => ⟨v, rfl, s6, ?_⟩⟩
          rw [show rowD rd row = rd (Txt.split row " ") from if_neg hb]
          exact t6
      · rintro τ G6 ⟨v, rfl, s6, t6⟩
        have s46 : Same G G6 := (s4.trans s5).trans s6
        have sH6 : Same H G6 := sG.trans s46
        have rok : ReadOk (rowD rd row) := by
          unfold rowD
          split
          · exact .inl rfl
          · exact R.ok _
        refine ⟨_, rfl, rfl, _, rfl, ?_⟩
        rcases rok with er | ⟨hw, rest, er, hrest⟩
        · rw [er] at em t6
          refine iteY (t6.isN.mpr rfl) ?_
          have em : formsGo rd rs 0 [] [] [] = .error (i + 1) := em
          exact ⟨_, rfl, _, _, rfl, rfl, rfl, (fun z => by cases z), fun _ d hd => flies (i + 1) em G6 sH6 d hd⟩
        · have nn : isNoneD (rowD rd row) = false := by rw [er]; rfl
          rw [if_neg (by rw [nn]; exact Bool.false_ne_true), show headW (rowD rd row) = hw from by rw [er]; rfl] at em
          refine iteN (fun y => by have := t6.isN.mp y; rw [nn] at this; cases this) ?_
          have t6' := t6
          rw [er] at t6'
          obtain ⟨ta, xs, rfl, hta, txs⟩ := t6'.tupl
          have hta' : ∃ xs', xs = .str hw :: xs' := by
            cases txs with
            | cons t1 _ => cases t1; exact ⟨_, rfl⟩
          obtain ⟨xs', rfl⟩ := hta'
          have hF6 := s46 _ _ hF
          have hJ6 := s46 _ _ hJ
          obtain ⟨as, hS0, RS⟩ := hS
          have hS6 := s46 _ _ hS0
          have RS6 : PairsAt G6 as stk := RS.keep fun a xs e => s46 _ _ e
          have td6 := td.keep (KeepT.of s46)
          have flies' : formsGo rd rs 0 [] [] [] = .error (i + 1) → ∀ G', Same H G' → ∀ d, G' d = none → E (.ref CL) (some d) (upd G' d (.xd ((["line"] : List Str).zip [V.int ((i : Int) + 1)]).reverse)) := fun e G' s d hd => flies (i + 1) e G' s d hd
          refine ⟨fun τ G7 => ∃ (stk' : List (Int × Int)) (jmp' : List (Key × V)), τ = [some (.ref ra), some (.ref fr), some (.ref fa), some (.ref ja), some (.ref sa), some (.int (i : Int)), some (.str row), some (.ref wl), some (.ref ta)] ∧ Same H G7 ∧ G7 fa = some (.lst acc) ∧ TDs K G7 acc ds ∧ TD K G7 (.ref ta) (rowD rd row) ∧
            G7 ja = some (.dK jmp') ∧ jmp'.length ≤ i + 1 ∧ StkAt G7 sa stk' ∧ stk'.length ≤ i + 1 ∧ formsGo rd rs 0 [] [] [] = formsGo rd (rs.drop (i + 1)) (i + 1) (ds ++ [rowD rd row]) stk' jmp', ?_, ?_⟩
          · refine ⟨_, rfl, ta, _, _, .str hw, rfl, rfl, hta, at_hd _ _, rfl, _, rfl, ?_⟩
            rw [dec_str]
            by_cases hif : hw = "if"
            · rw [if_pos hif] at em
              refine iteY hif ⟨_, rfl, .inl ⟨rfl, _, SqL.of hS6⟩, _, rfl, _, _, rfl, rfl, (by show 2 ≤ sizeLine; decide), fun T hT => ?_⟩
              have s7 : Same G6 _ := same_new (o := .tup [.int ((i : Int) + 1), .int 0]) hT
              have t7 : upd G6 T (.tup [.int ((i : Int) + 1), .int 0]) T = some (.tup [.int ((i : Int) + 1), .int 0]) := upd_same
              generalize upd G6 T (.tup [.int ((i : Int) + 1), .int 0]) = G7 at *
              have hS7 := s7 _ _ hS6
              have k8 : KeepT G7 (upd G7 sa (.lst (as.map V.ref ++ [.ref T]))) := KeepT.lst hS7
              have k68 := (KeepT.of s7).trans k8
              refine ⟨sa, _, _, rfl, rfl, hS7, (by rw [List.length_map, RS.len, sizeLine_eq]; omega), ?_⟩
              refine ⟨stk ++ [((i : Int) + 1, 0)], jmp, rfl, fun c o e => ?_, ?_, td6.keep k68, t6.keep k68, ?_, by omega, ⟨as ++ [T], ?_, PairsAt.snoc (p := ((i : Int) + 1, 0)) ?_ (RS6.keep fun a xs e => ?_)⟩, ?_, em⟩
              · rw [upd_ne (fun y => by rw [y, sa0] at e; cases e)]; exact s7 _ _ (sH6 _ _ e)
              · rw [upd_ne nfs]; exact s7 _ _ hF6
              · rw [upd_ne njs]; exact s7 _ _ hJ6
              · rw [upd_same, List.map_append]; rfl
              · rw [upd_ne (fun y => by rw [y, hS7] at t7; cases t7)]; exact t7
              · rw [upd_ne (fun y => by rw [y, hS6] at e; cases e)]; exact s7 _ _ e
              · rw [List.length_append]; simp only [List.length_cons, List.length_nil]; omega
            rw [if_neg hif] at em
            refine iteN hif ?_
            refine ⟨_, rfl, ta, _, _, .str hw, rfl, rfl, hta, at_hd _ _, (by show 2 ≤ sizeLine; decide), fun T hT => ?_⟩
            have s7 : Same G6 _ := same_new (o := .tup (sBlk.map V.str)) hT
            have t7 : upd G6 T (.tup (sBlk.map V.str)) T = some (.tup (sBlk.map V.str)) := upd_same
            show rIn _ _ _ _ (upd G6 T (.tup (sBlk.map V.str))) _
            generalize upd G6 T (.tup (sBlk.map V.str)) = G7 at *
            have hS7 := s7 _ _ hS6
            have hJ7 := s7 _ _ hJ6
            have hF7 := s7 _ _ hF6
            have sH7 := sH6.trans s7
            have td7 := td6.keep (KeepT.of s7)
            have t67 := t6.keep (KeepT.of s7)
            have RS7 : PairsAt G7 as stk := RS6.keep fun a xs e => s7 _ _ e
            refine ⟨T, _, rfl, .inr (SqT.of t7), rfl, flat_strs sBlk, _, rfl, ?_⟩
            rw [in_strs]
            by_cases hblk : hw ∈ sBlk
            · have hb2 : hw = sElse ∨ hw = sEnd := by
                rcases List.mem_cons.mp hblk with h | h
                · exact .inl h
                · exact .inr (List.mem_singleton.mp h)
              rw [if_pos hb2] at em
              have er1 : rowD rd row = oneD (if decide (hw = sElse) = true then sElse else sEnd) := by
                rw [er, hrest hb2]
                rcases hb2 with h | h
                · rw [h, decide_eq_true rfl, if_pos rfl]; rfl
                · rw [h, decide_eq_false (by decide +kernel), if_neg Bool.false_ne_true]; rfl
              refine iteY hblk ⟨_, rfl, _, rfl, _, _, rfl, rfl, _, rfl, _, rfl, _, (i : Int) + 1, sa, ja, decide (hw = sElse), stk, jmp, rfl, er1 ▸ t67, ⟨as, hS7, RS7⟩, hJ7, (by rw [sizeLine_eq]; omega), fun e G8 s8 => ?_, fun stk' jmp' G8 e b8 S8 J8 => ?_⟩
              · rw [e] at em
                exact ⟨_, rfl, iteT ⟨_, rfl, _, _, rfl, rfl, rfl, (fun z => by cases z), fun _ d hd => flies' em G8 (sH7.trans s8) d hd⟩⟩
              · rw [e] at em
                have cl := close_len e
                refine ⟨_, rfl, iteF ⟨stk', jmp', rfl, fun c o e => b8 c o (fun y => by rw [y, sa0] at e; cases e) (fun y => by rw [y, ja0] at e; cases e) (sH7 _ _ e), b8 _ _ nfs nfj hF7, ?_, ?_, J8, by omega, S8, by omega, em⟩⟩
                · refine td7.keep fun a xs h => ?_
                  have n1 : a ≠ sa := fun y => by subst y; rcases h with h | ⟨_, h⟩ <;> rw [hS7] at h <;> cases h
                  have n2 : a ≠ ja := fun y => by subst y; rcases h with h | ⟨_, h⟩ <;> rw [hJ7] at h <;> cases h
                  exact h.imp (b8 _ _ n1 n2) fun ⟨o, h⟩ => ⟨o, b8 _ _ n1 n2 h⟩
                · refine t67.keep fun a xs h => ?_
                  have n1 : a ≠ sa := fun y => by subst y; rcases h with h | ⟨_, h⟩ <;> rw [hS7] at h <;> cases h
                  have n2 : a ≠ ja := fun y => by subst y; rcases h with h | ⟨_, h⟩ <;> rw [hJ7] at h <;> cases h
                  exact h.imp (b8 _ _ n1 n2) fun ⟨o, h⟩ => ⟨o, b8 _ _ n1 n2 h⟩
            · have hb2 : ¬ (hw = sElse ∨ hw = sEnd) := fun y => hblk (by
                rcases y with h | h
                · rw [h]; exact List.mem_cons_self ..
                · rw [h]; exact List.mem_cons_of_mem _ (List.mem_singleton.mpr rfl))
              rw [if_neg hb2] at em
              exact iteN hblk (iteF ⟨stk, jmp, rfl, sH7, hF7, td7, t67, hJ7, by omega, ⟨as, hS7, RS7⟩, by omega, em⟩)
          · rintro τ G7 ⟨stk', jmp', rfl, sH7, hF7, td7, t7, hJ7, lj', hS7, ls', em'⟩
            refine ⟨_, rfl, .inl ⟨rfl, _, SqL.of hF7⟩, _, rfl, fa, _, _, rfl, rfl, hF7, (by rw [la, sizeLine_eq]; omega), ?_⟩
            have k8 : KeepT G7 (upd G7 fa (.lst (acc ++ [.ref ta]))) := KeepT.lst hF7
            obtain ⟨as', hS7, RS7⟩ := hS7
            refine ⟨acc ++ [.ref ta], ds ++ [rowD rd row], stk', jmp', _, _, _, _, rfl, fun c o e => ?_, upd_same, TDs.snoc (t7.keep k8) (td7.keep k8), ?_, ?_, lj', ⟨as', ?_, RS7.keep fun a xs e => ?_⟩, ls', em'⟩
            · rw [upd_ne (fun y => by rw [y, hfa] at e; cases e)]; exact sH7 _ _ e
            · rw [List.length_append, la]; rfl
            · rw [upd_ne nfj.symm]; exact hJ7
            · rw [upd_ne nfs.symm]; exact hS7
            · rw [upd_ne (fun y => by rw [y, hF7] at e; cases e)]; exact e
    · rintro σ G ⟨acc, ds, stk, jmp, v5, v6, v7, v8, rfl, sG, hF, td, la, hJ, lj, ⟨as, hS, RS⟩, ls, em⟩
      rw [List.length_map, List.drop_length] at em
      refine ⟨_, rfl, !(as.map V.ref).isEmpty, .inl ⟨_, SqL.of hS, rfl⟩, ?_⟩
      cases RS with
      | nil =>
        refine iteF ?_
        refine ⟨_, rfl, _, rfl, (by show 2 ≤ sizeLine; decide), fun t ht => ?_⟩
        exact kok ds jmp fa ja t acc _ em (sG.trans (same_new ht)) (same_new ht _ _ hF) (td.keep (KeepT.of (same_new ht))) (same_new ht _ _ hJ) upd_same
      | cons h1 h2 =>
        have em : formsGo rd rs 0 [] [] [] = .error (rs.length + 1) := by rw [em]; rfl
        refine iteT ?_
        refine ⟨_, rfl, ra, _, rfl, .inl (sG.seq hra), _, _, rfl, rfl, rfl, (fun z => by cases z), fun _ d hd => ?_⟩
        rw [List.length_map]
        exact flies (rs.length + 1) em G sG d hd
end
end IdL
namespace IdL
open PySem L2 TL
/-- a form: a tuple that begins with a word -/
def HasW (d : PyData) : Prop := ∃ (w : Str) (r : List PyData), d = .tuple (.str w :: r)
theorem forms_has {rd : List Str → PyData} (ok : ∀ ws, ReadOk (rd ws)) : ∀ (rs : List Str) (i : Nat) (fs : List PyData) (stk : List (Int × Int)) (jmp : List (Key × V)) {q : List PyData × List (Key × V)}, formsGo rd rs i fs stk jmp = .ok q → (∀ d ∈ fs, HasW d) → ∀ d ∈ q.1, HasW d
  | [], i, fs, stk, jmp, q, h, hf => by
    have h : (if stk.isEmpty = true then Except.ok (fs, jmp) else Except.error (i + 1)) = Except.ok q := h
    split at h
    · cases h; exact hf
    · cases h
  | row :: rs, i, fs, stk, jmp, q, h, hf => by
    rw [formsGo_cons] at h
    have rok : ReadOk (rowD rd row) := by
      unfold rowD
      split
      · exact .inl rfl
      · exact ok _
    have hf2 : isNoneD (rowD rd row) = false → ∀ d ∈ fs ++ [rowD rd row], HasW d := fun hn d hd => by
      rcases List.mem_append.mp hd with h | h
      · exact hf d h
      · rw [List.mem_singleton.mp h]
        rcases rok with e | ⟨w, r, e, _⟩
        · rw [e] at hn; cases hn
        · exact ⟨w, r, e⟩
    split at h
    · cases h
    · rename_i hn
      have hn := Bool.eq_false_iff.mpr hn
      split at h
      · exact forms_has ok rs _ _ _ _ h (hf2 hn)
      · split at h
        · split at h
          · cases h
          · exact forms_has ok rs _ _ _ _ h (hf2 hn)
        · exact forms_has ok rs _ _ _ _ h (hf2 hn)
theorem forms_len {rd : List Str → PyData} : ∀ (rs : List Str) (i : Nat) (fs : List PyData) (stk : List (Int × Int)) (jmp : List (Key × V)) {q : List PyData × List (Key × V)}, formsGo rd rs i fs stk jmp = .ok q → q.1.length = fs.length + rs.length
  | [], i, fs, stk, jmp, q, h => by
    have h : (if stk.isEmpty = true then Except.ok (fs, jmp) else Except.error (i + 1)) = Except.ok q := h
    split at h
    · cases h; rfl
    · cases h
  | row :: rs, i, fs, stk, jmp, q, h => by
    rw [formsGo_cons] at h
    have done : ∀ stk' jmp', formsGo rd rs (i + 1) (fs ++ [rowD rd row]) stk' jmp' = .ok q → q.1.length = fs.length + (row :: rs).length := fun stk' jmp' h => by
      have := forms_len rs _ _ _ _ h
      rw [List.length_append] at this
      simp only [List.length_cons, List.length_nil] at this ⊢
      omega
    split at h
    · cases h
    · split at h
      · exact done _ _ h
      · split at h
        · split at h
          · cases h
          · exact done _ _ h
        · exact done _ _ h
def isIfD (d : PyData) : Bool := decide (headW d = "if")
/-- what becomes of a text: its rows, forms and jumps; a line that is none; too many -/
inductive CodeR
  | ok (rs : List Str) (ds : List PyData) (jmp : List (Key × V))
  | bad (n : Nat)
  | many
def codeM (rd : List Str → PyData) (ml mi : Int) (x : Str) : CodeR := if ml < ((linesOf x).length : Int) then .many else
  match formsGo rd (linesOf x) 0 [] [] [] with
  | .error n => .bad n
  | .ok q => if mi < ((q.1.filter isIfD).length : Int) then .many else .ok (linesOf x) q.1 q.2
abbrev stMany : Stmt := inClass (top 9) 0
abbrev sCode : Stmt := top 68
theorem scCode : FnScope ["text", "read_line", "most_lines", "most_ifs", "rows", "forms", "jumps", "ifs", "form"] ["text", "read_line", "most_lines", "most_ifs"] (defScope sCode) := ⟨rfl, rfl, rfl, by decide +kernel, rfl, by decide +kernel, by decide +kernel⟩
def spCode (P : Program) (w : World) (K : PySem.W.Frag) (mg : Str → Option Value) (base : Heap) (n : Nat) (CL CT : Addr) : Sp := fun vs H Q E => ∃ (x : Str) (fr : Addr) (ml mi : Int) (rd : List Str → PyData), vs = [.str x, .ref fr, .int ml, .int mi] ∧ x.length ≤ 900000 ∧ Rows (linesOf x) ∧ Rdr P w K mg base n fr rd ∧
  (∀ rs ds jmp (ra fa ja t : Addr) (xs : List V) (H' : Hp), codeM rd ml mi x = .ok rs ds jmp → Same H H' → H' ra = some (.lst (rs.map V.str)) → H' fa = some (.lst xs) → TDs K H' xs ds → (∀ d ∈ ds, HasW d) → H' ja = some (.dK jmp) → H' t = some (.tup [.ref ra, .ref fa, .ref ja]) → Q (.ref t) H') ∧
  (∀ m, codeM rd ml mi x = .bad m → lineErr CL m H E) ∧ (codeM rd ml mi x = .many → ∀ d H', Same H H' → (∃ fs, H' d = some (.xd fs)) → E (.ref CT) (some d) H')
structure FForms (K : PySem.W.Frag) (mg : Str → Option Value) (f : Addr) (d : FuncData) : Prop where
  u : Fun K "read_forms" "read_forms" sForms f d
  b : Binds K d ["rows", "read_line"] []
  g : mg "read_forms" = some (.ref f)
structure FLines (K : PySem.W.Frag) (mg : Str → Option Value) (f : Addr) (d : FuncData) : Prop where
  u : Fun K "split_lines" "split_lines" sLines f d
  b : Binds K d ["text"] []
  g : mg "split_lines" = some (.ref f)
section
variable {P : Program} {w : World} {K : PySem.W.Frag} {mg : Str → Option Value} {base : Heap}
theorem ok_code {n : Nat} {f fF fL CL CT iT : Addr} {fd dF dL : FuncData} (hn : 1 ≤ n) (F : Fun K "read_code" "read_code" sCode f fd) (R : FForms K mg fF dF) (L : FLines K mg fL dL) (OF : FnOk P w K mg base (CX P w) (n + 1) fF dF ["rows", "read_line"] (spForms P w K mg base n CL))
    (B : BErr P K mg "TooMany" "TooMany.__init__" stMany ["what", "many", "most"] CT iT) (su : mg "super" = none) (T : Glo mg) :
    FnOk P w K mg base (CX P w) (n + 2) f fd ["text", "read_line", "most_lines", "most_ifs"] (spCode P w K mg base n CL CT) := by
  have OL : FnOk P w K mg base CX0 1 fL dL ["text"] spLines := ok_lines L.u
  refine F.okX scCode (fun vs H Q E h => ?_) (fun cdv A outer s H vs Q E hr h => ?_)
  · obtain ⟨x, fr, ml, mi, rd, rfl, _⟩ := h
    rfl
  · obtain ⟨x, fr, ml, mi, rd, rfl, hx, ro, D, kok, kbad, kmany⟩ := h
    have hr1 := hr.mono (show 1 ≤ n + 1 by omega)
    refine ⟨_, (pss_cons (ps_set (i := 4) scCode.nd rfl (.inl rfl) (pe_call OL hr1 rfl L.g L.u.kp L.b .nil pass0 (pa_cons (pv 0) pa_nil)))
 (pss_cons (ps_if (pt_cmpR op_gt (pe_callB call_len_seq (by rfl) T.len PySem.boot_len (pa_cons (pv 4) pa_nil)) (pv 2) (nomark _)) (pss_one (ps_raise rfl (takes_of rfl rfl rfl rfl) (pmk_err B.T B.F (by decide) B.g su hr (pa_cons pe_str (pa_cons (pe_callB call_len_seq (by rfl) T.len PySem.boot_len (pa_cons (pv 4) pa_nil)) (pa_cons (pv 2) pa_nil)))))) pss_nil)
 (pss_cons (ps_asg (pe_call OF hr rfl R.g R.u.kp R.b .nil (passes_call (takes_of rfl rfl rfl rfl) fun _ _ _ _ z => z) (pa_cons (pv 4) (pa_cons (pv 1) pa_nil))) (pg_tup rfl (pgs_cons (pg_name (i := 5) scCode.nd rfl (.inl rfl)) (pgs_cons (pg_name (i := 6) scCode.nd rfl (.inl rfl)) pgs_nil))))
 (pss_cons (ps_set (i := 7) scCode.nd rfl (.inl rfl) (pe_callB call_len_seq (by rfl) T.len PySem.boot_len (pa_cons (pe_lc (own := [("form", 8)]) (g := gName 8) rfl scCode.nd (pi_list (pv 5)) (blkOk_by (N := ["text", "read_line", "most_lines", "most_ifs", "rows", "forms", "jumps", "ifs", "form"]) (sc := defScope sCode) (by decide +kernel))
          (fun _ _ _ _ _ => pg_name (i := 8) scCode.nd rfl (.inl rfl)) (fun _ _ _ _ _ => pts_one (pt_cmpR op_eq (pe_ix (r := rIxT K) ix_tup (pv 8) pe_int (fun _ _ => rfl)) pe_str (nomark _))) (fun _ _ _ _ _ => pv 8)) pa_nil)))
 (pss_cons (ps_if (pt_cmpR op_gt (pv 7) (pv 3) (nomark _)) (pss_one (ps_raise rfl (takes_of rfl rfl rfl rfl) (pmk_err B.T B.F (by decide) B.g su hr (pa_cons pe_str (pa_cons (pv 7) (pa_cons (pv 3) pa_nil)))))) pss_nil)
 (pss_one (ps_ret (pe_tup (pa_cons (pv 4) (pa_cons (pv 5) (pa_cons (pv 6) pa_nil))))))))))), ?_⟩
    refine ⟨_, rfl, x, rfl, (by rw [sizeLine_eq]; omega), fun ra hra => ?_⟩
    have s1 : Same H _ := same_new (o := .lst ((linesOf x).map V.str)) hra
    have r1 : upd H ra (.lst ((linesOf x).map V.str)) ra = some (.lst ((linesOf x).map V.str)) := upd_same
    generalize upd H ra (.lst ((linesOf x).map V.str)) = H1 at *
    refine ⟨_, rfl, ra, _, rfl, .inl (SqL.of r1), _, rfl, _, _, rfl, rfl, _, rfl, ?_⟩
    rw [List.length_map]
    by_cases hm : ml < ((linesOf x).length : Int)
    · have e : codeM rd ml mi x = .many := if_pos hm
      exact iteY hm ⟨_, rfl, ra, _, rfl, .inl (SqL.of r1), _, rfl, rfl, (fun z => by cases z), fun _ d hd => kmany e d _ (s1.trans (same_new hd)) ⟨_, upd_same⟩⟩
    have ec : codeM rd ml mi x = match formsGo rd (linesOf x) 0 [] [] [] with
      | .error n => .bad n
      | .ok q => if mi < ((q.1.filter isIfD).length : Int) then .many else .ok (linesOf x) q.1 q.2 := if_neg hm
    refine iteN hm ?_
    refine ⟨_, rfl, _, rfl, ra, fr, linesOf x, rd, rfl, SqL.of r1, ro, D, fun ds jmp fa ja t xs H2 e s2 hF td hJ ht => ?_, fun m e => fun d H' s' hd => kbad m (by rw [ec, e]) d H' (s1.trans s') hd⟩
    rw [e] at ec
    dsimp only at ec
    have hw := forms_has D.ok _ _ _ _ _ e (fun _ h => absurd h List.not_mem_nil)
    have s02 := s1.trans s2
    refine ⟨t, _, rfl, SqT.of ht, rfl, _, _, rfl, _, _, rfl, rfl, ?_⟩
    refine ⟨_, rfl, fa, rfl, ⟨_, SqL.of hF⟩, fun Dd hD => lc_list (K := K) (a := fa) (xs := xs) (fun i G => Same H2 G ∧ ∃ acc, G Dd = some (.lst acc) ∧ acc.length = ((ds.take i).filter isIfD).length) ⟨same_new hD, [], upd_same, rfl⟩ (fun i G _ ⟨sG, _⟩ => SqL.of (sG _ _ hF)) ?_ ?_⟩
    · rintro i y G hi ⟨sG, acc, hG, la⟩
      obtain ⟨d, hd, tdd⟩ := (td.keep (KeepT.of sG)).get i hi
      obtain ⟨w0, r0, rfl⟩ := hw d (List.mem_of_getElem? hd)
      obtain ⟨a, ys, rfl, ha, tys⟩ := tdd.tupl
      have hys : ∃ ys', ys = .str w0 :: ys' := by
        cases tys with
        | cons t1 _ => cases t1; exact ⟨_, rfl⟩
      obtain ⟨ys', rfl⟩ := hys
      have lf := forms_len _ _ _ _ _ e
      have hi' := (List.getElem?_eq_some_iff.mp hd).1
      have lfil : ((ds.take i).filter isIfD).length ≤ i := Nat.le_trans (List.length_filter_le _ _) (by rw [List.length_take]; omega)
      have few := ro.few
      simp only [List.length_nil] at lf
      refine ⟨rfl, _, rfl, a, _, _, .str w0, rfl, rfl, ha, at_hd _ _, rfl, _, rfl, ?_⟩
      rw [dec_str, List.take_add_one, hd, List.filter_append]
      by_cases h0 : w0 = "if"
      · refine iteY h0 ⟨_, rfl, acc, hG, (by rw [sizeLine_eq]; omega), fun c o e => ?_, _, upd_same, ?_⟩
        · rw [upd_ne (fun y => by rw [y, hD] at e; cases e)]; exact sG _ _ e
        · have e1 : ([PyData.tuple (.str w0 :: r0)].filter isIfD).length = 1 := by
            rw [List.filter_cons, if_pos (show isIfD (.tuple (.str w0 :: r0)) = true from decide_eq_true h0)]; rfl
          rw [List.length_append, List.length_append, la]
          exact congrArg _ e1.symm
      · refine iteN h0 ⟨sG, acc, hG, ?_⟩
        have e1 : ([PyData.tuple (.str w0 :: r0)].filter isIfD) = [] := by
          rw [List.filter_cons, if_neg (show ¬ isIfD (.tuple (.str w0 :: r0)) = true from fun y => h0 (of_decide_eq_true y))]; rfl
        rw [la]
        show _ = (_ ++ [PyData.tuple (.str w0 :: r0)].filter isIfD).length
        rw [e1, List.append_nil]
    · rintro G ⟨sG, acc, hG, la⟩
      rw [td.len, List.take_length] at la
      have s0G := s02.trans sG
      refine ⟨_, _, rfl, .inl (SqL.of hG), ?_⟩
      refine ⟨_, rfl, _, rfl, _, _, rfl, rfl, _, rfl, ?_⟩
      rw [la]
      by_cases hi : mi < ((ds.filter isIfD).length : Int)
      · rw [if_pos hi] at ec
        exact iteY hi ⟨_, rfl, _, rfl, rfl, (fun z => by cases z), fun _ d hd => kmany ec d _ (s0G.trans (same_new hd)) ⟨_, upd_same⟩⟩
      · rw [if_neg hi] at ec
        refine iteN hi ⟨_, rfl, _, rfl, _, rfl, (by show 3 ≤ sizeLine; decide), fun t2 ht2 => ?_⟩
        have s5 : Same G _ := same_new (o := .tup [.ref ra, .ref fa, .ref ja]) ht2
        exact kok _ ds jmp ra fa ja t2 xs _ ec (s0G.trans s5) (s5 _ _ (sG _ _ (s2 _ _ r1))) (s5 _ _ (sG _ _ hF)) (td.keep (KeepT.of (sG.trans s5))) hw (s5 _ _ (sG _ _ hJ)) upd_same
end
end IdL
namespace IdL
open PySem L2 TL
/-! ### where the jumps lead -/
def Has (jmp : List (Key × V)) (l : Int) : Prop := ∃ j : Int, valV jmp (.inl l) = some (.int j) ∧ l < j
theorem Has.put {jmp : List (Key × V)} {l k v : Int} (h : Has jmp l) (hk : k < v) : Has (putK jmp (.inl k) (.int v)) l := by
  obtain ⟨j, h1, h2⟩ := h
  by_cases e : (Sum.inl l : Key) = Sum.inl k
  · refine ⟨v, by rw [valV_put, if_pos e], ?_⟩
    have : l = k := Sum.inl.inj e
    omega
  · exact ⟨j, by rw [valV_put, if_neg e]; exact h1, h2⟩
theorem Has.new {jmp : List (Key × V)} {k v : Int} (hk : k < v) : Has (putK jmp (.inl k) (.int v)) k := ⟨v, by rw [valV_put, if_pos rfl], hk⟩
def keyP (p : Int × Int) : Int := if p.2 = 0 then p.1 else p.2
def opens (d : PyData) : Prop := headW d = "if" ∨ headW d = sElse
structure JInv (fs : List PyData) (i : Nat) (stk : List (Int × Int)) (jmp : List (Key × V)) : Prop where
  len : fs.length = i
  cov : ∀ l : Nat, l < i → opens (fs.getD l .none) → Has jmp ((l : Int) + 1) ∨ ∃ p ∈ stk, keyP p = (l : Int) + 1
  bnd : ∀ p ∈ stk, p.1 ≤ i ∧ p.2 ≤ i
theorem getD_old {fs : List PyData} {d : PyData} {l : Nat} (h : l < fs.length) : (fs ++ [d]).getD l .none = fs.getD l .none := by
  rw [List.getD_eq_getElem?_getD, List.getD_eq_getElem?_getD, List.getElem?_append_left h]
theorem getD_new {fs : List PyData} {d : PyData} : (fs ++ [d]).getD fs.length .none = d := by
  rw [List.getD_eq_getElem?_getD, List.getElem?_append_right (Nat.le_refl _), Nat.sub_self]; rfl
theorem JInv.skip {fs : List PyData} {i : Nat} {stk : List (Int × Int)} {jmp : List (Key × V)} (J : JInv fs i stk jmp) {d : PyData} (h : ¬ opens d) : JInv (fs ++ [d]) (i + 1) stk jmp := by
  have len := J.len
  refine ⟨by rw [List.length_append, len]; rfl, fun l hl ho => ?_, fun p hp => ?_⟩
  · by_cases e : l < i
    · rw [getD_old (by omega)] at ho
      exact J.cov l e ho
    · obtain rfl : l = fs.length := by omega
      rw [getD_new] at ho
      exact absurd ho h
  · have := J.bnd p hp
    omega
theorem JInv.push {fs : List PyData} {i : Nat} {stk : List (Int × Int)} {jmp : List (Key × V)} (J : JInv fs i stk jmp) {d : PyData} : JInv (fs ++ [d]) (i + 1) (stk ++ [((i : Int) + 1, 0)]) jmp := by
  have len := J.len
  refine ⟨by rw [List.length_append, len]; rfl, fun l hl ho => ?_, fun p hp => ?_⟩
  · by_cases e : l < i
    · rw [getD_old (by omega)] at ho
      rcases J.cov l e ho with h | ⟨p, hp, h⟩
      · exact .inl h
      · exact .inr ⟨p, List.mem_append.mpr (.inl hp), h⟩
    · obtain rfl : l = i := by omega
      exact .inr ⟨_, List.mem_append.mpr (.inr (List.mem_singleton.mpr rfl)), if_pos rfl⟩
  · rcases List.mem_append.mp hp with h | h
    · have := J.bnd p h
      omega
    · rw [List.mem_singleton.mp h]
      exact ⟨by show (i : Int) + 1 ≤ ((i + 1 : Nat) : Int); omega, by show (0 : Int) ≤ ((i + 1 : Nat) : Int); omega⟩
theorem JInv.close {fs : List PyData} {i : Nat} {stk stk' : List (Int × Int)} {jmp jmp' : List (Key × V)} (J : JInv fs i stk jmp) {el : Bool} {d : PyData} (h : closeM el ((i : Int) + 1) stk jmp = some (stk', jmp')) (hd : el = false → ¬ opens d) : JInv (fs ++ [d]) (i + 1) stk' jmp' := by
  have len := J.len
  rcases List.eq_nil_or_concat stk with e0 | ⟨ps, p, e0⟩
  · subst e0; cases h
  rw [List.concat_eq_append] at e0
  subst e0
  have em : closeM el ((i : Int) + 1) (ps ++ [p]) jmp = if el = true then (if p.2 = 0 then some (ps ++ [(p.1, (i : Int) + 1)], putK jmp (.inl p.1) (.int ((i : Int) + 1 + 1))) else none)
      else some (ps, putK jmp (.inl (if p.2 = 0 then p.1 else p.2)) (.int ((i : Int) + 1))) := by
    unfold closeM
    rw [List.getLast?_append, List.dropLast_concat]; rfl
  rw [em] at h
  have bp := J.bnd p (List.mem_append.mpr (.inr (List.mem_singleton.mpr rfl)))
  have bq : ∀ q ∈ ps, q.1 ≤ i ∧ q.2 ≤ i := fun q hq => J.bnd q (List.mem_append.mpr (.inl hq))
  have kp : keyP p < (i : Int) + 1 := by unfold keyP; split <;> omega
  cases el with
  | true =>
    rw [if_pos rfl] at h
    by_cases h0 : p.2 = 0
    · rw [if_pos h0] at h
      cases h
      have ek : keyP p = p.1 := if_pos h0
      refine ⟨by rw [List.length_append, len]; rfl, fun l hl ho => ?_, fun q hq => ?_⟩
      · by_cases e : l < i
        · rw [getD_old (by omega)] at ho
          rcases J.cov l e ho with h | ⟨q, hq, h⟩
          · exact .inl (h.put (by omega))
          · rcases List.mem_append.mp hq with hq | hq
            · exact .inr ⟨q, List.mem_append.mpr (.inl hq), h⟩
            · rw [List.mem_singleton.mp hq] at h
              refine .inl ?_
              rw [← h, ek]
              exact Has.new (by omega)
        · obtain rfl : l = i := by omega
          exact .inr ⟨_, List.mem_append.mpr (.inr (List.mem_singleton.mpr rfl)), if_neg (show ¬ (l : Int) + 1 = 0 by omega)⟩
      · rcases List.mem_append.mp hq with h | h
        · have := bq q h
          omega
        · rw [List.mem_singleton.mp h]
          exact ⟨by show p.1 ≤ ((i + 1 : Nat) : Int); omega, by show (i : Int) + 1 ≤ ((i + 1 : Nat) : Int); omega⟩
    · rw [if_neg h0] at h; cases h
  | false =>
    rw [if_neg Bool.false_ne_true] at h
    cases h
    have nd := hd rfl
    refine ⟨by rw [List.length_append, len]; rfl, fun l hl ho => ?_, fun q hq => ?_⟩
    · by_cases e : l < i
      · rw [getD_old (by omega)] at ho
        rcases J.cov l e ho with h | ⟨q, hq, h⟩
        · exact .inl (h.put kp)
        · rcases List.mem_append.mp hq with hq | hq
          · exact .inr ⟨q, hq, h⟩
          · rw [List.mem_singleton.mp hq] at h
            refine .inl ?_
            rw [← h]
            exact Has.new kp
      · obtain rfl : l = fs.length := by omega
        rw [getD_new] at ho
        exact absurd ho nd
    · have := bq q hq
      omega
theorem if_else : ¬ ("if" : Str) = sElse := by decide +kernel
theorem end_if : ¬ sEnd = ("if" : Str) := by decide +kernel
theorem end_else : ¬ sEnd = sElse := by decide +kernel
theorem forms_jumps {rd : List Str → PyData} : ∀ (rs : List Str) (i : Nat) (fs : List PyData) (stk : List (Int × Int)) (jmp : List (Key × V)) {q : List PyData × List (Key × V)}, formsGo rd rs i fs stk jmp = .ok q → JInv fs i stk jmp → JInv q.1 (i + rs.length) [] q.2
  | [], i, fs, stk, jmp, q, h, J => by
    have h : (if stk.isEmpty = true then Except.ok (fs, jmp) else Except.error (i + 1)) = Except.ok q := h
    split at h
    · rename_i hs
      cases h
      rw [List.isEmpty_iff.mp hs] at J
      exact J
    · cases h
  | row :: rs, i, fs, stk, jmp, q, h, J => by
    rw [formsGo_cons] at h
    have e : i + (row :: rs).length = (i + 1) + rs.length := by simp only [List.length_cons]; omega
    rw [e]
    split at h
    · cases h
    · split at h
      · exact forms_jumps rs _ _ _ _ h J.push
      · rename_i h1
        split at h
        · split at h
          · cases h
          · rename_i q' hc
            refine forms_jumps rs _ _ _ _ h (J.close hc fun z ho => ?_)
            have := of_decide_eq_false z
            rcases ho with ho | ho
            · exact h1 ho
            · exact this ho
        · rename_i h2
          refine forms_jumps rs _ _ _ _ h (J.skip fun ho => ?_)
          rcases ho with ho | ho
          · exact h1 ho
          · exact h2 (.inl ho)
theorem jumps_of {rd : List Str → PyData} {rs : List Str} {ds : List PyData} {jmp : List (Key × V)} (h : formsGo rd rs 0 [] [] [] = .ok (ds, jmp)) : ∀ l : Nat, l < ds.length → opens (ds.getD l .none) → Has jmp ((l : Int) + 1) := fun l hl ho => by
  have J := forms_jumps rs 0 [] [] [] h ⟨rfl, fun l hl => absurd hl (by omega), fun p hp => absurd hp List.not_mem_nil⟩
  have e : ds.length = 0 + rs.length := J.len
  rcases J.cov l (by omega) ho with h | ⟨p, hp, _⟩
  · exact h
  · cases hp
end IdL
namespace IdL
open PySem L2 TL
/-! ### the ways -/
structure FormsAt (K : PySem.W.Frag) (H : Hp) (fa : Addr) (ds : List PyData) : Prop where
  ex : ∃ xs, H fa = some (.lst xs) ∧ TDs K H xs ds
  has : ∀ d ∈ ds, HasW d
theorem FormsAt.same {K : PySem.W.Frag} {H H' : Hp} {fa : Addr} {ds : List PyData} (h : FormsAt K H fa ds) (s : Same H H') : FormsAt K H' fa ds := by
  obtain ⟨xs, h1, h2⟩ := h.ex
  exact ⟨⟨xs, s _ _ h1, h2.keep (KeepT.of s)⟩, h.has⟩
theorem TDs.at {K : PySem.W.Frag} {H : Hp} : ∀ {vs : List V} {ds : List PyData} (t : TDs K H vs ds) (i : Nat), i < ds.length → ∃ v, vs[i]? = some v ∧ TD K H v (ds.getD i .none)
  | _, _, .cons h t, 0, _ => ⟨_, rfl, h⟩
  | _, _, .cons h t, i + 1, hi => TDs.at t i (by simp only [List.length_cons] at hi; omega)
theorem FormsAt.head {K : PySem.W.Frag} {H : Hp} {fa : Addr} {ds : List PyData} (h : FormsAt K H fa ds) {l : Nat} (hl : l < ds.length) : ∃ xs a ys, H fa = some (.lst xs) ∧ xs.length = ds.length ∧ xs[l]? = some (.ref a) ∧ SqT K H a (.str (headW (ds.getD l .none)) :: ys) ∧ TD K H (.ref a) (ds.getD l .none) := by
  obtain ⟨xs, h1, h2⟩ := h.ex
  obtain ⟨v, hv, tv⟩ := h2.at l hl
  have hm : ds.getD l .none ∈ ds := by
    rw [List.getD_eq_getElem?_getD, List.getElem?_eq_getElem hl]; exact List.getElem_mem _
  obtain ⟨w, r, e⟩ := h.has _ hm
  rw [e] at tv ⊢
  have tv' := tv
  obtain ⟨a, ys, rfl, ha, tys⟩ := tv.tupl
  have hys : ∃ ys', ys = .str w :: ys' := by
    cases tys with
    | cons t1 _ => cases t1; exact ⟨_, rfl⟩
  obtain ⟨ys', rfl⟩ := hys
  exact ⟨xs, a, ys', h1, h2.len, hv, ha, tv'⟩
theorem at_nat {xs : List V} {l : Nat} {v : V} (h : xs[l]? = some v) : atI xs ((l : Int) + 1 - 1) = some v := by
  rw [show (l : Int) + 1 - 1 = (l : Int) by omega]
  exact atI_nat h
abbrev sStep : Stmt := top 69
theorem scStep : FnScope ["forms", "jumps", "line"] ["forms", "jumps", "line"] (defScope sStep) := ⟨rfl, rfl, rfl, by decide +kernel, rfl, by decide +kernel, by decide +kernel⟩
def JOk (ds : List PyData) (jmp : List (Key × V)) : Prop := ∀ l : Nat, l < ds.length → opens (ds.getD l .none) → Has jmp ((l : Int) + 1)
/-- from a line on to the next one that is played, past else and end -/
inductive StepTo (ds : List PyData) (jmp : List (Key × V)) : Nat → Nat → Prop
  | stop (l : Nat) (h : l < ds.length → ¬ (headW (ds.getD l .none) = sElse ∨ headW (ds.getD l .none) = sEnd)) : StepTo ds jmp l l
  | end_ (l m : Nat) (hl : l < ds.length) (h : headW (ds.getD l .none) = sEnd) (r : StepTo ds jmp (l + 1) m) : StepTo ds jmp l m
  | else_ (l j m : Nat) (hl : l < ds.length) (h : headW (ds.getD l .none) = sElse) (hj : valV jmp (.inl ((l : Int) + 1)) = some (.int ((j : Int) + 1))) (r : StepTo ds jmp j m) : StepTo ds jmp l m
theorem StepTo.one {ds : List PyData} {jmp : List (Key × V)} {l m m' : Nat} (a : StepTo ds jmp l m) (b : StepTo ds jmp l m') : m = m' := by
  induction a with
  | stop l h =>
    cases b with
    | stop _ _ => rfl
    | end_ _ _ hl h' _ => exact absurd (.inr h') (h hl)
    | else_ _ _ _ hl h' _ _ => exact absurd (.inl h') (h hl)
  | end_ l m hl h r ih =>
    cases b with
    | stop _ h' => exact absurd (.inr h) (h' hl)
    | end_ _ _ _ _ r' => exact ih r'
    | else_ _ _ _ _ h' _ _ => rw [h] at h'; exact absurd h' end_else
  | else_ l j m hl h hj r ih =>
    cases b with
    | stop _ h' => exact absurd (.inl h) (h' hl)
    | end_ _ _ _ h' _ => rw [h'] at h; exact absurd h end_else
    | else_ _ j' _ _ _ hj' r' =>
      rw [hj] at hj'
      have : j = j' := by
        have := V.int.inj (Option.some.inj hj')
        omega
      subst this
      exact ih r'
def spStep (K : PySem.W.Frag) : Sp := fun vs H Q _ => ∃ (fa ja : Addr) (l : Nat) (ds : List PyData) (jmp : List (Key × V)), vs = [.ref fa, .ref ja, .int ((l : Int) + 1)] ∧ FormsAt K H fa ds ∧ H ja = some (.dK jmp) ∧ JOk ds jmp ∧ ds.length ≤ 100000 ∧
  ∀ (m : Nat) H', l ≤ m → StepTo ds jmp l m → (m < ds.length → ¬ (headW (ds.getD m .none) = sElse ∨ headW (ds.getD m .none) = sEnd)) → Same H H' → Q (.int ((m : Int) + 1)) H'
section
variable {P : Program} {w : World} {K : PySem.W.Frag} {mg : Str → Option Value} {base : Heap}
theorem ok_step {f : Addr} {fd : FuncData} (F : Fun K "step_on" "step_on" sStep f fd) (T : Glo mg) : FnOk P w K mg base CX0 1 f fd ["forms", "jumps", "line"] (spStep K) := by
  refine F.ok scStep (fun vs H Q E h => ?_) (fun cdv A outer s H vs Q E hr h => ?_)
  · obtain ⟨fa, ja, l, ds, jmp, rfl, _⟩ := h
    rfl
  · obtain ⟨fa, ja, l, ds, jmp, rfl, hF, hJ, J, few, k⟩ := h
    have hu := hu_of hr
    refine ⟨_, (pss_cons (ps_while PassesOwn.never (PW.pt (pw_and (pt_cmpR op_le (pv 2) (pe_callB call_len_seq (by rfl) T.len PySem.boot_len (pa_cons (pv 0) pa_nil)) (nomark _)) (pw_and1 (pt_cmpR op_in_seq (pe_ix ix_tup (pe_ix ix_list (pv 0) (pe_op op_sub (pv 2) pe_int) (fun _ _ => rfl)) pe_int (fun _ _ => rfl)) (pe_tup (pa_cons pe_str (pa_cons pe_str pa_nil))) (by rfl)))))
        (pss_one (ps_set (i := 2) scStep.nd rfl (.inl rfl) (pe_ifExp (pt_cmpR op_eq (pe_ix ix_tup (pe_ix ix_list (pv 0) (pe_op op_sub (pv 2) pe_int) (fun _ _ => rfl)) pe_int (fun _ _ => rfl)) pe_str (nomark _)) (pe_dget hu (pv 1) (pv 2) (fun _ _ => rfl)) (pe_op op_add (pv 2) pe_int)))))
 (pss_one (ps_ret (pv 2)))), ?_⟩
    refine ⟨fun n σ G => ∃ m : Nat, σ = [some (.ref fa), some (.ref ja), some (.int ((m : Int) + 1))] ∧ Same H G ∧ l ≤ m ∧ (∀ q, StepTo ds jmp m q → StepTo ds jmp l q) ∧ n = ds.length - m, ⟨_, l, rfl, Same.refl H, Nat.le_refl _, (fun _ h => h), rfl⟩, ?_⟩
    rintro n σ G ⟨m, rfl, sG, hm, st, rfl⟩
    have hFG := hF.same sG
    obtain ⟨xs, hxs, tds⟩ := hFG.ex
    refine ⟨_, rfl, _, rfl, fa, _, rfl, .inl (SqL.of hxs), _, _, rfl, rfl, _, rfl, ?_⟩
    rw [tds.len]
    by_cases hle : m < ds.length
    · refine iteY (show (m : Int) + 1 ≤ (ds.length : Int) by omega) ?_
      obtain ⟨xs', a, ys, hxs', lx, hv, ha, _⟩ := hFG.head hle
      have ex : xs = xs' := by rw [hxs] at hxs'; cases hxs'; rfl
      subst ex
      refine ⟨_, rfl, _, rfl, _, _, rfl, rfl, fa, xs, _, .ref a, rfl, rfl, SqL.of hxs, at_nat hv, a, _, _, .str (headW (ds.getD m .none)), rfl, rfl, ha, at_hd _ _, (by show 2 ≤ sizeLine; decide), fun T hT => ?_⟩
      have s7 : Same G _ := same_new (o := .tup (sBlk.map V.str)) hT
      have t7 : upd G T (.tup (sBlk.map V.str)) T = some (.tup (sBlk.map V.str)) := upd_same
      show rIn _ _ _ _ (upd G T (.tup (sBlk.map V.str))) _
      generalize upd G T (.tup (sBlk.map V.str)) = G7 at *
      have s07 := sG.trans s7
      refine ⟨T, _, rfl, .inr (SqT.of t7), rfl, flat_strs sBlk, _, rfl, ?_⟩
      rw [in_strs]
      by_cases hblk : headW (ds.getD m .none) ∈ sBlk
      · refine iteY hblk ⟨fun σ' G' => ∃ m' : Nat, σ' = [some (.ref fa), some (.ref ja), some (.int ((m' : Int) + 1))] ∧ Same H G' ∧ m < m' ∧ (∀ q, StepTo ds jmp m' q → StepTo ds jmp m q), ?_, ?_⟩
        · rintro σ' G' ⟨m', rfl, s', hlt, st'⟩
          exact ⟨ds.length - m', by omega, m', rfl, s', by omega, (fun q h => st q (st' q h)), rfl⟩
        · refine ⟨_, rfl, _, rfl, _, _, rfl, rfl, fa, xs, _, .ref a, rfl, rfl, SqL.of (s7 _ _ hxs), at_nat hv, a, _, _, .str (headW (ds.getD m .none)), rfl, rfl, Same.tup s7 ha, at_hd _ _, rfl, _, rfl, ?_⟩
          rw [dec_str]
          by_cases hel : headW (ds.getD m .none) = sElse
          · obtain ⟨j, hj, hlt⟩ := J m hle (.inr hel)
            have dg := DGet.k (k := Sum.inl ((m : Int) + 1)) (s07 _ _ hJ)
            rw [hj] at dg
            refine iteY hel ⟨_, rfl, _, rfl, ja, _, rfl, dg, (j - 1).toNat, ?_, s07, by omega, fun q h => .else_ m (j - 1).toNat q hle hel (by rw [hj]; congr 2; omega) h⟩
            rw [show (((j - 1).toNat : Nat) : Int) + 1 = j by omega]
            rfl
          · have hen : headW (ds.getD m .none) = sEnd := by
              rcases List.mem_cons.mp hblk with h | h
              · exact absurd h hel
              · exact List.mem_singleton.mp h
            exact iteN hel ⟨_, rfl, _, _, rfl, rfl, m + 1, rfl, s07, by omega, fun q h => .end_ m q hle hen h⟩
      · have nb : ¬ (headW (ds.getD m .none) = sElse ∨ headW (ds.getD m .none) = sEnd) := fun y => hblk (by
          rcases y with h | h
          · rw [h]; exact List.mem_cons_self ..
          · rw [h]; exact List.mem_cons_of_mem _ (List.mem_singleton.mpr rfl))
        refine iteN hblk ⟨_, rfl, k m G7 hm (st m (.stop m fun _ => nb)) (fun _ y => hblk ?_) s07⟩
        rcases y with h | h
        · rw [h]; exact List.mem_cons_self ..
        · rw [h]; exact List.mem_cons_of_mem _ (List.mem_singleton.mpr rfl)
    · exact iteN (show ¬ (m : Int) + 1 ≤ (ds.length : Int) by omega) (iteF ⟨_, rfl, k m G hm (st m (.stop m fun y => absurd y hle)) (fun y => absurd y hle) sG⟩)
end
end IdL
namespace IdL
open PySem L2 TL PySem.Spec PyProof.Rows
/-- t + u of any two tuples: () + u is u itself -/
def rCatA (K : PySem.W.Frag) : R2 := fun x y H Q => ∃ a b xs ys, x = .ref a ∧ y = .ref b ∧ SqT K H a xs ∧ SqT K H b ys ∧ xs.length + ys.length ≤ sizeLine ∧
  (xs = [] → Q (.ref b) H) ∧ (xs ≠ [] → ys = [] → Q (.ref a) H) ∧ (xs ≠ [] → ys ≠ [] → ∀ p, H p = none → Q (.ref p) (upd H p (.tup (xs ++ ys))))
theorem cat_nil {prog : Program} {w : World} {A : Around} {E : Value → Shared → Prop} {s : Shared} {t b : Addr} {vs ws : List Value} {Q : Value → Shared → Prop} (ht : IsTup s.heap t vs.toArray) (hb : IsTup s.heap b ws.toArray) (hv : vs = [])
    (h0 : Q (.ref b) s) : wpAny (model prog w) A (binaryOp .Add (.ref t) (.ref b)) Q E s := by
  obtain ⟨⟨cls, dd, data, sl⟩, ho, hc, n, hd⟩ := id ht
  obtain ⟨⟨cls2, dd2, data2, sl2⟩, ho2, hc2, n2, hd2⟩ := id hb
  simp only at hc hd hc2 hd2
  subst hc hd hc2 hd2
  exact concat_meets ⟨_, ho, rfl⟩ ⟨_, ho2, rfl⟩ noFill_tuple_add seq_tuple_add PySem.F.slot_tuple_add PySem.F.entry_tuple_add (PySem.F.args_tuple_add_2 _ _)
    (tuple_addW0 t b vs.toArray ws.toArray n n2 dd dd2 sl sl2 (by simp [hv])) ⟨ho, ho2, h0⟩
theorem op_catA {X : Cx} : OpR X (binaryOp .Add) (rCatA X.K) := by
  intro pins s σ H x y v u Q I rx ry h
  obtain ⟨a, b, xs, ys, rfl, rfl, ha, hb, hz, q0, q1, q2⟩ := h
  by_cases hx : xs = []
  · cases rx
    cases ry
    obtain ⟨its, r1, p1, _⟩ := I.tuple ha
    obtain ⟨its2, r2, p2, _⟩ := I.tuple hb
    exact cat_nil p1 p2 (r1.nil_iff.mpr hx) ⟨.ref b, H, I, rfl, q0 hx⟩
  · exact op_catT pins s σ H _ _ v u Q I rx ry ⟨a, b, xs, ys, rfl, rfl, ha, hb, hx, hz, q1 hx, q2 hx⟩
/-! ### all ways of a code -/
def wayV (ls : List Nat) : List V := ls.map fun l : Nat => V.int ((l : Int) + 1)
structure WayAt (H : Hp) (a : Addr) (n k : Nat) (ls : List Nat) : Prop where
  at_ : H a = some (.tup (wayV ls))
  low : ∀ l ∈ ls, l < n
  len : ls.length ≤ k
def WorkAt (H : Hp) (n : Nat) (a : Addr) (s : Nat) (ls : List Nat) : Prop := ∃ wa, H a = some (.tup [.int ((s : Int) + 1), .ref wa]) ∧ WayAt H wa n s ls
inductive WorkL (H : Hp) (n : Nat) : List Addr → List (Nat × List Nat) → Prop
  | nil : WorkL H n [] []
  | cons {a : Addr} {s : Nat × List Nat} {as : List Addr} {ss : List (Nat × List Nat)} : WorkAt H n a s.1 s.2 → WorkL H n as ss → WorkL H n (a :: as) (s :: ss)
inductive WaysL (H : Hp) (n : Nat) : List Addr → List (List Nat) → Prop
  | nil : WaysL H n [] []
  | cons {a : Addr} {k : Nat} {ls : List Nat} {as : List Addr} {ss : List (List Nat)} : WayAt H a n k ls → WaysL H n as ss → WaysL H n (a :: as) (ls :: ss)
/-- the tuples that are tracked stand -/
def KeepU (H H' : Hp) : Prop := ∀ a xs, H a = some (.tup xs) → H' a = some (.tup xs)
theorem KeepU.trans {H H1 H2 : Hp} (a : KeepU H H1) (b : KeepU H1 H2) : KeepU H H2 := fun p xs h => b p xs (a p xs h)
theorem KeepU.of {H H' : Hp} (s : Same H H') : KeepU H H' := fun a xs e => s _ _ e
theorem KeepU.lst {H : Hp} {p : Addr} {zs : List V} {o : HO} (e : H p = some (.lst zs)) : KeepU H (upd H p o) := fun a xs h => by
  rw [upd_ne (fun y => by rw [y, e] at h; cases h)]; exact h
theorem WayAt.keep {H H' : Hp} {a : Addr} {n k : Nat} {ls : List Nat} (h : WayAt H a n k ls) (u : KeepU H H') : WayAt H' a n k ls := ⟨u _ _ h.at_, h.low, h.len⟩
theorem WayAt.more {H : Hp} {a : Addr} {n k j : Nat} {ls : List Nat} (h : WayAt H a n k ls) (u : k ≤ j) : WayAt H a n j ls := ⟨h.at_, h.low, Nat.le_trans h.len u⟩
theorem WorkAt.keep {H H' : Hp} {a : Addr} {n s : Nat} {ls : List Nat} (h : WorkAt H n a s ls) (u : KeepU H H') : WorkAt H' n a s ls := by
  obtain ⟨wa, h1, h2⟩ := h
  exact ⟨wa, u _ _ h1, h2.keep u⟩
theorem WaysL.keep {H H' : Hp} {n : Nat} (u : KeepU H H') : ∀ {as : List Addr} {ss : List (List Nat)}, WaysL H n as ss → WaysL H' n as ss
  | _, _, .nil => .nil
  | _, _, .cons h t => .cons (h.keep u) (t.keep u)
theorem WaysL.snoc {H : Hp} {n k : Nat} {b : Addr} {s : List Nat} (e : WayAt H b n k s) : ∀ {as : List Addr} {ss : List (List Nat)}, WaysL H n as ss → WaysL H n (as ++ [b]) (ss ++ [s])
  | _, _, .nil => .cons e .nil
  | _, _, .cons h t => .cons h (t.snoc e)
theorem WaysL.len {H : Hp} {n : Nat} : ∀ {as : List Addr} {ss : List (List Nat)}, WaysL H n as ss → as.length = ss.length
  | _, _, .nil => rfl
  | _, _, .cons _ t => by rw [List.length_cons, List.length_cons, t.len]
theorem WorkL.keep {H H' : Hp} {n : Nat} (u : KeepU H H') : ∀ {as : List Addr} {ss : List (Nat × List Nat)}, WorkL H n as ss → WorkL H' n as ss
  | _, _, .nil => .nil
  | _, _, .cons h t => .cons (h.keep u) (t.keep u)
theorem WorkL.snoc {H : Hp} {n : Nat} {b : Addr} {s : Nat × List Nat} (e : WorkAt H n b s.1 s.2) : ∀ {as : List Addr} {ss : List (Nat × List Nat)}, WorkL H n as ss → WorkL H n (as ++ [b]) (ss ++ [s])
  | _, _, .nil => .cons e .nil
  | _, _, .cons h t => .cons h (t.snoc e)
theorem WorkL.last {H : Hp} {n : Nat} : ∀ {ss : List (Nat × List Nat)} {as : List Addr} {s : Nat × List Nat}, WorkL H n as (ss ++ [s]) → ∃ as' a, as = as' ++ [a] ∧ WorkL H n as' ss ∧ WorkAt H n a s.1 s.2
  | [], _, s, .cons (a := a) h t => by cases t; exact ⟨[], a, rfl, .nil, h⟩
  | q :: ss, _, s, .cons (a := a) h t => by
    obtain ⟨as', b, rfl, t', hb⟩ := t.last
    exact ⟨a :: as', b, rfl, .cons h t', hb⟩
theorem WorkL.len {H : Hp} {n : Nat} : ∀ {as : List Addr} {ss : List (Nat × List Nat)}, WorkL H n as ss → as.length = ss.length
  | _, _, .nil => rfl
  | _, _, .cons _ t => by rw [List.length_cons, List.length_cons, t.len]
/-- ifs from a line on, the ways that may follow, the steps that may follow -/
def ifsFrom (ds : List PyData) (s : Nat) : Nat := ((ds.drop s).filter isIfD).length
def wgt (ds : List PyData) (ss : List (Nat × List Nat)) : Nat := (ss.map fun s => 2 ^ ifsFrom ds s.1).sum
def msr (n : Nat) (ss : List (Nat × List Nat)) : Nat := (ss.map fun s => 3 ^ (n + 1 - s.1)).sum
theorem wgt_snoc (ds : List PyData) (ss : List (Nat × List Nat)) (s : Nat × List Nat) : wgt ds (ss ++ [s]) = wgt ds ss + 2 ^ ifsFrom ds s.1 := by
  unfold wgt; rw [List.map_append, List.sum_append]; simp
theorem msr_snoc (n : Nat) (ss : List (Nat × List Nat)) (s : Nat × List Nat) : msr n (ss ++ [s]) = msr n ss + 3 ^ (n + 1 - s.1) := by
  unfold msr; rw [List.map_append, List.sum_append]; simp
theorem ifs_mono (ds : List PyData) {s m : Nat} (h : s ≤ m) : ifsFrom ds m ≤ ifsFrom ds s := by
  unfold ifsFrom
  have : ds.drop m = (ds.drop s).drop (m - s) := by rw [List.drop_drop]; congr 1; omega
  rw [this]
  exact ((List.drop_sublist _ _).filter _).length_le
theorem ifs_at (ds : List PyData) {m : Nat} (h : m < ds.length) (hi : headW (ds.getD m .none) = "if") : ifsFrom ds (m + 1) + 1 ≤ ifsFrom ds m := by
  unfold ifsFrom
  rw [List.drop_eq_getElem_cons h, List.filter_cons]
  have : isIfD ds[m] = true := by
    rw [List.getD_eq_getElem?_getD, List.getElem?_eq_getElem h] at hi
    exact decide_eq_true hi
  rw [if_pos this, List.length_cons]
  exact Nat.le_refl _
theorem pow_le3 {a b : Nat} (h : a ≤ b) : 3 ^ a ≤ 3 ^ b := Nat.pow_le_pow_right (by decide) h
theorem pow_le2 {a b : Nat} (h : a ≤ b) : 2 ^ a ≤ 2 ^ b := Nat.pow_le_pow_right (by decide) h
def endL : List Str := ["no", "quit", "accept", "refuse"]
/-! ### which rows of lines are ways -/
inductive WayM (ds : List PyData) (jmp : List (Key × V)) : Nat → List Nat → Prop
  | over (m : Nat) (h : ds.length ≤ m) : WayM ds jmp m []
  | ends (m : Nat) (hm : m < ds.length) (h : headW (ds.getD m .none) ∈ endL) : WayM ds jmp m [m]
  | ifA (m q : Nat) (t : List Nat) (hm : m < ds.length) (h : headW (ds.getD m .none) = "if") (s : StepTo ds jmp (m + 1) q) (r : WayM ds jmp q t) : WayM ds jmp m (m :: t)
  | ifB (m j q : Nat) (t : List Nat) (hm : m < ds.length) (h : headW (ds.getD m .none) = "if") (hj : valV jmp (.inl ((m : Int) + 1)) = some (.int ((j : Int) + 1))) (s : StepTo ds jmp j q) (r : WayM ds jmp q t) : WayM ds jmp m (m :: t)
  | pl (m q : Nat) (t : List Nat) (hm : m < ds.length) (h : headW (ds.getD m .none) ∉ endL) (h2 : ¬ headW (ds.getD m .none) = "if") (s : StepTo ds jmp (m + 1) q) (r : WayM ds jmp q t) : WayM ds jmp m (m :: t)
def WayR (ds : List PyData) (jmp : List (Key × V)) (l : Nat) (t : List Nat) : Prop := ∃ m, StepTo ds jmp l m ∧ WayM ds jmp m t
theorem if_end : ("if" : Str) ∉ endL := by decide +kernel
/-- what is found and what is still to be gone make up all ways -/
structure WInv (ds : List PyData) (jmp : List (Key × V)) (FL : List (List Nat)) (ss : List (Nat × List Nat)) : Prop where
  snd : ∀ ls ∈ FL, WayR ds jmp 0 ls
  wsnd : ∀ p ∈ ss, ∀ t, WayR ds jmp p.1 t → WayR ds jmp 0 (p.2 ++ t)
  cmp : ∀ ls, WayR ds jmp 0 ls → ls ∈ FL ∨ ∃ p ∈ ss, ∃ t, WayR ds jmp p.1 t ∧ ls = p.2 ++ t
section
variable {ds : List PyData} {jmp : List (Key × V)} {FL : List (List Nat)} {ss : List (Nat × List Nat)} {s0 m : Nat} {w : List Nat}
theorem WInv.split (I : WInv ds jmp FL (ss ++ [(s0, w)])) : (∀ p ∈ ss, ∀ t, WayR ds jmp p.1 t → WayR ds jmp 0 (p.2 ++ t)) ∧ (∀ t, WayR ds jmp s0 t → WayR ds jmp 0 (w ++ t)) ∧ ∀ ls, WayR ds jmp 0 ls → ls ∈ FL ∨ (∃ p ∈ ss, ∃ t, WayR ds jmp p.1 t ∧ ls = p.2 ++ t) ∨ ∃ t, WayR ds jmp s0 t ∧ ls = w ++ t := by
  refine ⟨fun p hp => I.wsnd p (List.mem_append.mpr (.inl hp)), fun t => I.wsnd (s0, w) (List.mem_append.mpr (.inr (List.mem_singleton.mpr rfl))) t, fun ls h => ?_⟩
  rcases I.cmp ls h with y | ⟨p, hp, t, ht, e⟩
  · exact .inl y
  · rcases List.mem_append.mp hp with y | y
    · exact .inr (.inl ⟨p, y, t, ht, e⟩)
    · rw [List.mem_singleton.mp y] at ht e
      exact .inr (.inr ⟨t, ht, e⟩)
theorem WInv.told (I : WInv ds jmp FL (ss ++ [(s0, w)])) {t0 : List Nat} (h : ∀ t, WayR ds jmp s0 t ↔ t = t0) : WInv ds jmp (FL ++ [w ++ t0]) ss := by
  obtain ⟨h1, h2, h3⟩ := I.split
  refine ⟨fun ls hl => ?_, h1, fun ls hl => ?_⟩
  · rcases List.mem_append.mp hl with y | y
    · exact I.snd ls y
    · rw [List.mem_singleton.mp y]; exact h2 t0 ((h t0).mpr rfl)
  · rcases h3 ls hl with y | y | ⟨t, ht, e⟩
    · exact .inl (List.mem_append.mpr (.inl y))
    · exact .inr y
    · rw [(h t).mp ht] at e
      exact .inl (List.mem_append.mpr (.inr (List.mem_singleton.mpr e)))
theorem way_at (hs : StepTo ds jmp s0 m) (t : List Nat) : WayR ds jmp s0 t ↔ WayM ds jmp m t := by
  constructor
  · rintro ⟨q, h1, h2⟩
    rw [hs.one h1]; exact h2
  · exact fun h => ⟨m, hs, h⟩
theorem WInv.over (I : WInv ds jmp FL (ss ++ [(s0, w)])) (hs : StepTo ds jmp s0 m) (hm : ds.length ≤ m) : WInv ds jmp (FL ++ [w]) ss := by
  have := I.told (t0 := []) fun t => by
    rw [way_at hs]
    constructor
    · intro h
      cases h with
      | over => rfl
      | ends => omega
      | ifA => omega
      | ifB => omega
      | pl => omega
    · rintro rfl; exact .over m hm
  rw [List.append_nil] at this
  exact this
theorem WInv.ends (I : WInv ds jmp FL (ss ++ [(s0, w)])) (hs : StepTo ds jmp s0 m) (hm : m < ds.length) (he : headW (ds.getD m .none) ∈ endL) : WInv ds jmp (FL ++ [w ++ [m]]) ss :=
  I.told (t0 := [m]) fun t => by
    rw [way_at hs]
    constructor
    · intro h
      cases h with
      | over _ h => omega
      | ends => rfl
      | ifA _ _ _ _ h => rw [h] at he; exact absurd he if_end
      | ifB _ _ _ _ _ h => rw [h] at he; exact absurd he if_end
      | pl _ _ _ _ h => exact absurd he h
    · rintro rfl; exact .ends m hm he
theorem WInv.plain (I : WInv ds jmp FL (ss ++ [(s0, w)])) (hs : StepTo ds jmp s0 m) (hm : m < ds.length) (he : headW (ds.getD m .none) ∉ endL) (hi : ¬ headW (ds.getD m .none) = "if") : WInv ds jmp FL (ss ++ [(m + 1, w ++ [m])]) := by
  obtain ⟨h1, h2, h3⟩ := I.split
  have inv : ∀ t, WayR ds jmp s0 t ↔ ∃ t', t = m :: t' ∧ WayR ds jmp (m + 1) t' := fun t => by
    rw [way_at hs]
    constructor
    · intro h
      cases h with
      | over _ h => omega
      | ends _ _ h => exact absurd h he
      | ifA _ _ _ _ h => exact absurd h hi
      | ifB _ _ _ _ _ h => exact absurd h hi
      | pl _ q t _ _ _ s r => exact ⟨t, rfl, q, s, r⟩
    · rintro ⟨t', rfl, q, s, r⟩; exact .pl m q t' hm he hi s r
  refine ⟨I.snd, fun p hp t ht => ?_, fun ls hl => ?_⟩
  · rcases List.mem_append.mp hp with y | y
    · exact h1 p y t ht
    · rw [List.mem_singleton.mp y] at ht ⊢
      have := h2 (m :: t) ((inv _).mpr ⟨t, rfl, ht⟩)
      rw [show w ++ [m] ++ t = w ++ (m :: t) by simp]
      exact this
  · rcases h3 ls hl with y | ⟨p, hp, y⟩ | ⟨t, ht, e⟩
    · exact .inl y
    · exact .inr ⟨p, List.mem_append.mpr (.inl hp), y⟩
    · obtain ⟨t', rfl, ht'⟩ := (inv t).mp ht
      exact .inr ⟨(m + 1, w ++ [m]), List.mem_append.mpr (.inr (List.mem_singleton.mpr rfl)), t', ht', by rw [e]; simp⟩
theorem WInv.iff (I : WInv ds jmp FL (ss ++ [(s0, w)])) (hs : StepTo ds jmp s0 m) (hm : m < ds.length) (hi : headW (ds.getD m .none) = "if") {j : Nat} (hj : valV jmp (.inl ((m : Int) + 1)) = some (.int ((j : Int) + 1))) : WInv ds jmp FL (ss ++ [(j, w ++ [m])] ++ [(m + 1, w ++ [m])]) := by
  obtain ⟨h1, h2, h3⟩ := I.split
  have inv : ∀ t, WayR ds jmp s0 t ↔ ∃ t', t = m :: t' ∧ (WayR ds jmp (m + 1) t' ∨ WayR ds jmp j t') := fun t => by
    rw [way_at hs]
    constructor
    · intro h
      cases h with
      | over _ h => omega
      | ends _ _ h => rw [hi] at h; exact absurd h if_end
      | ifA _ q t _ _ s r => exact ⟨t, rfl, .inl ⟨q, s, r⟩⟩
      | ifB _ j' q t _ _ hj' s r =>
        rw [hj] at hj'
        have : j = j' := by
          have := V.int.inj (Option.some.inj hj')
          omega
        subst this
        exact ⟨t, rfl, .inr ⟨q, s, r⟩⟩
      | pl _ _ _ _ _ h => exact absurd hi h
    · rintro ⟨t', rfl, ⟨q, s, r⟩ | ⟨q, s, r⟩⟩
      · exact .ifA m q t' hm hi s r
      · exact .ifB m j q t' hm hi hj s r
  refine ⟨I.snd, fun p hp t ht => ?_, fun ls hl => ?_⟩
  · rw [List.append_assoc] at hp
    rcases List.mem_append.mp hp with y | y
    · exact h1 p y t ht
    · have key : ∀ t, (WayR ds jmp (m + 1) t ∨ WayR ds jmp j t) → WayR ds jmp 0 (w ++ [m] ++ t) := fun t ht => by
        have := h2 (m :: t) ((inv _).mpr ⟨t, rfl, ht⟩)
        rw [show w ++ [m] ++ t = w ++ (m :: t) by simp]
        exact this
      rcases List.mem_cons.mp y with y | y
      · rw [y] at ht ⊢; exact key t (.inr ht)
      · rw [List.mem_singleton.mp y] at ht ⊢; exact key t (.inl ht)
  · rcases h3 ls hl with y | ⟨p, hp, y⟩ | ⟨t, ht, e⟩
    · exact .inl y
    · exact .inr ⟨p, List.mem_append.mpr (.inl (List.mem_append.mpr (.inl hp))), y⟩
    · obtain ⟨t', rfl, ht'⟩ := (inv t).mp ht
      rcases ht' with y | y
      · exact .inr ⟨(m + 1, w ++ [m]), List.mem_append.mpr (.inr (List.mem_singleton.mpr rfl)), t', y, by rw [e]; simp⟩
      · exact .inr ⟨(j, w ++ [m]), List.mem_append.mpr (.inl (List.mem_append.mpr (.inr (List.mem_singleton.mpr rfl)))), t', y, by rw [e]; simp⟩
end
abbrev sWays : Stmt := top 70
theorem scWays : FnScope ["forms", "jumps", "found", "work", "start", "way", "line", "word"] ["forms", "jumps"] (defScope sWays) := ⟨rfl, rfl, rfl, by decide +kernel, rfl, by decide +kernel, by decide +kernel⟩
def spWays (K : PySem.W.Frag) : Sp := fun vs H Q _ => ∃ (fa ja : Addr) (ds : List PyData) (jmp : List (Key × V)), vs = [.ref fa, .ref ja] ∧ FormsAt K H fa ds ∧ H ja = some (.dK jmp) ∧ JOk ds jmp ∧ ds.length ≤ 100000 ∧ ifsFrom ds 0 ≤ 20 ∧
  ∀ (fo : Addr) (as : List Addr) H', Same H H' → H' fo = some (.lst (as.map V.ref)) → (∀ FL : List (List Nat), WaysL H' ds.length as FL → (∀ ls, ls ∈ FL ↔ WayR ds jmp 0 ls) → as.length ≤ 2 ^ 20 → Q (.ref fo) H')
structure FStep (K : PySem.W.Frag) (mg : Str → Option Value) (f : Addr) (d : FuncData) : Prop where
  u : Fun K "step_on" "step_on" sStep f d
  b : Binds K d ["forms", "jumps", "line"] []
  g : mg "step_on" = some (.ref f)
section
variable {P : Program} {w : World} {K : PySem.W.Frag} {mg : Str → Option Value} {base : Heap}
theorem ok_ways {f fS : Addr} {fd dS : FuncData} (F : Fun K "find_ways" "find_ways" sWays f fd) (S : FStep K mg fS dS) (T : Glo mg) (EN : ∃ p, mg "ENDING" = some (.ref p) ∧ KTup K p (endL.map V.str)) : FnOk P w K mg base CX0 2 f fd ["forms", "jumps"] (spWays K) := by
  have OS : FnOk P w K mg base CX0 1 fS dS ["forms", "jumps", "line"] (spStep K) := ok_step S.u T
  obtain ⟨ep, gE, tE⟩ := EN
  refine F.ok scWays (fun vs H Q E h => ?_) (fun cdv A outer s H vs Q E hr h => ?_)
  · obtain ⟨fa, ja, ds, jmp, rfl, _⟩ := h
    rfl
  · obtain ⟨fa, ja, ds, jmp, rfl, hF, hJ, J, few, hif, k⟩ := h
    have hu := hu_of hr
    refine ⟨_, (pss_cons (ps_set (i := 2) scWays.nd rfl (.inl rfl) (pe_lst pa_nil))
 (pss_cons (ps_set (i := 3) scWays.nd rfl (.inl rfl) (pe_lst (pa_cons (pe_tup (pa_cons pe_int (pa_cons (pe_tup pa_nil) pa_nil))) pa_nil)))
 (pss_cons (ps_while PassesOwn.never (pt_truth (pv 3) (by intro _; rfl)) (pss_cons (ps_asg (pe_bm0 PySem.F.plainAttrs_list PySem.F.slot_list_pop PySem.F.type_list_pop mt_pop (pv 3)) (pg_tup rfl (pgs_cons (pg_name (i := 4) scWays.nd rfl (.inl rfl)) (pgs_cons (pg_name (i := 5) scWays.nd rfl (.inl rfl)) pgs_nil))))
 (pss_cons (ps_set (i := 6) scWays.nd rfl (.inl rfl) (pe_call OS hr rfl S.g S.u.kp S.b .nil pass0 (pa_cons (pv 0) (pa_cons (pv 1) (pa_cons (pv 4) pa_nil)))))
 (pss_cons (ps_if (pt_cmpR op_gt (pv 6) (pe_callB call_len_seq (by rfl) T.len PySem.boot_len (pa_cons (pv 0) pa_nil)) (nomark _)) (pss_cons (ps_expr (pe_bm PySem.F.plainAttrs_list PySem.F.slot_list_append PySem.F.type_list_append mt_append (pv 2) (pa_cons (pv 5) pa_nil)))
 (pss_one (ps_continue))) pss_nil)
 (pss_join (ps_set (i := 5) scWays.nd rfl (.inl rfl) (pe_op op_catA (pv 5) (pe_tup (pa_cons (pv 6) pa_nil))))
 (pss_cons (ps_set (i := 7) scWays.nd rfl (.inl rfl) (pe_ix ix_tup (pe_ix ix_list (pv 0) (pe_op op_sub (pv 6) pe_int) (fun _ _ => rfl)) pe_int (fun _ _ => rfl)))
 (pss_cons (ps_if (pt_cmpR op_in_seq (pv 7) (pe_glob rfl gE (v := .ref ep) rfl) (by rfl)) (pss_cons (ps_expr (pe_bm PySem.F.plainAttrs_list PySem.F.slot_list_append PySem.F.type_list_append mt_append (pv 2) (pa_cons (pv 5) pa_nil)))
 (pss_one (ps_continue))) pss_nil)
 (pss_join (ps_if (pt_cmpR op_eq (pv 7) pe_str (nomark _)) (pss_one (ps_expr (pe_bm PySem.F.plainAttrs_list PySem.F.slot_list_append PySem.F.type_list_append mt_append (pv 3) (pa_cons (pe_tup (pa_cons (pe_dget hu (pv 1) (pv 6) (fun _ _ => rfl)) (pa_cons (pv 5) pa_nil))) pa_nil)))) pss_nil)
 (pss_one (ps_expr (pe_bm PySem.F.plainAttrs_list PySem.F.slot_list_append PySem.F.type_list_append mt_append (pv 3) (pa_cons (pe_tup (pa_cons (pe_op op_add (pv 6) pe_int) (pa_cons (pv 5) pa_nil))) pa_nil))))))))))))
 (pss_one (ps_ret (pv 2)))))), ?_⟩
    have low : 2 ^ ifsFrom ds 0 ≤ 2 ^ 20 := pow_le2 hif
    refine ⟨Nat.zero_le _, fun fo hfo => ?_⟩
    have s1 : Same H _ := same_new (o := .lst []) hfo
    have f1 : upd H fo (.lst []) fo = some (.lst []) := upd_same
    generalize upd H fo (.lst []) = H1 at *
    refine ⟨Nat.zero_le _, fun e0 he0 => ?_⟩
    have s2 : Same H1 _ := same_new (o := .tup []) he0
    have e2 : upd H1 e0 (.tup []) e0 = some (.tup []) := upd_same
    generalize upd H1 e0 (.tup []) = H2 at *
    refine ⟨(by show 2 ≤ sizeLine; decide), fun t0 ht0 => ?_⟩
    have s3 : Same H2 _ := same_new (o := .tup [.int 1, .ref e0]) ht0
    have t3 : upd H2 t0 (.tup [.int 1, .ref e0]) t0 = some (.tup [.int 1, .ref e0]) := upd_same
    generalize upd H2 t0 (.tup [.int 1, .ref e0]) = H3 at *
    refine ⟨(by show 1 ≤ sizeLine; decide), fun wo hwo => ?_⟩
    have s4 : Same H3 _ := same_new (o := .lst [.ref t0]) hwo
    have w4 : upd H3 wo (.lst [.ref t0]) wo = some (.lst [.ref t0]) := upd_same
    generalize upd H3 wo (.lst [.ref t0]) = H4 at *
    have s13 : Same H1 H3 := s2.trans s3
    have f3 := s13 _ _ f1
    have fo0 := hfo
    have wo0 : H wo = none := (s1.trans s13).free hwo
    have nfw : fo ≠ wo := fun y => by rw [y, hwo] at f3; cases f3
    refine ⟨fun n σ G => ∃ (fnd wk : List Addr) (ss : List (Nat × List Nat)) (FL : List (List Nat)) (v4 v5 v6 v7 : Option V), σ = [some (.ref fa), some (.ref ja), some (.ref fo), some (.ref wo), v4, v5, v6, v7] ∧ Same H G ∧ G fo = some (.lst (fnd.map V.ref)) ∧ G wo = some (.lst (wk.map V.ref)) ∧ WaysL G ds.length fnd FL ∧ WInv ds jmp FL ss ∧ WorkL G ds.length wk ss ∧
      fnd.length + wgt ds ss ≤ 2 ^ ifsFrom ds 0 ∧ n = msr ds.length ss, ⟨_, [], [t0], [(0, [])], [], none, none, none, none, rfl, (s1.trans s13).trans s4, s4 _ _ f3, w4, .nil, ⟨(fun _ h => absurd h List.not_mem_nil), (fun p hp t ht => by rw [List.mem_singleton.mp hp] at ht ⊢; exact ht), fun ls h => .inr ⟨(0, []), List.mem_singleton.mpr rfl, ls, h, rfl⟩⟩, .cons ⟨e0, s4 _ _ t3, ⟨s4 _ _ (s3 _ _ e2), (fun _ h => absurd h List.not_mem_nil), Nat.le_refl _⟩⟩ .nil, (by show 0 + (2 ^ ifsFrom ds 0 + 0) ≤ _; omega), rfl⟩, ?_⟩
    rintro n σ G ⟨fnd, wk, ss, FL, v4, v5, v6, v7, rfl, sG, hfo, hwo, hfnd, WI, WL, hw, rfl⟩
    refine ⟨_, rfl, !(wk.map V.ref).isEmpty, .inl ⟨_, SqL.of hwo, rfl⟩, ?_⟩
    rcases List.eq_nil_or_concat ss with e0 | ⟨ss', ⟨s0, ls⟩, e0⟩
    · subst e0
      cases WL
      refine iteF ⟨_, rfl, k fo fnd G sG hfo FL hfnd (fun ls => ⟨WI.snd ls, fun h => (WI.cmp ls h).elim id fun ⟨p, hp, _⟩ => absurd hp List.not_mem_nil⟩) ?_⟩
      omega
    rw [List.concat_eq_append] at e0
    subst e0
    obtain ⟨wk', a, rfl, WL', wa, ha, hwa⟩ := WL.last
    have ene : (!((wk' ++ [a]).map V.ref).isEmpty) = true := by rw [List.map_append]; cases wk' <;> rfl
    rw [ene]
    rw [wgt_snoc] at hw
    dsimp only at hw hwa
    refine iteT ⟨fun σ' G' => ∃ (fnd wk : List Addr) (ss : List (Nat × List Nat)) (FL : List (List Nat)) (v4 v5 v6 v7 : Option V), σ' = [some (.ref fa), some (.ref ja), some (.ref fo), some (.ref wo), v4, v5, v6, v7] ∧ Same H G' ∧ G' fo = some (.lst (fnd.map V.ref)) ∧ G' wo = some (.lst (wk.map V.ref)) ∧ WaysL G' ds.length fnd FL ∧ WInv ds jmp FL ss ∧ WorkL G' ds.length wk ss ∧
      fnd.length + wgt ds ss ≤ 2 ^ ifsFrom ds 0 ∧ msr ds.length ss < msr ds.length (ss' ++ [(s0, ls)]), ?_, ?_⟩
    · rintro σ' G' ⟨fnd, wk, ss, FL, v4, v5, v6, v7, e, a1, a2, a3, a4, a5, a6, a8, a7⟩
      exact ⟨_, a7, fnd, wk, ss, FL, v4, v5, v6, v7, e, a1, a2, a3, a4, a5, a6, a8, rfl⟩
    rw [msr_snoc]
    dsimp only
    have elast : ((wk' ++ [a]).map V.ref)[((wk' ++ [a]).map V.ref).length - 1]? = some (.ref a) := by
      rw [List.map_append, List.length_append]
      show (wk'.map V.ref ++ [V.ref a])[(wk'.map V.ref).length + 1 - 1]? = _
      rw [Nat.add_sub_cancel, List.getElem?_append_right (Nat.le_refl _), Nat.sub_self]; rfl
    have edrop : ((wk' ++ [a]).map V.ref).dropLast = wk'.map V.ref := by rw [List.map_append]; exact List.dropLast_concat ..
    have k1 : KeepU G (upd G wo (.lst ((wk' ++ [a]).map V.ref).dropLast)) := KeepU.lst hwo
    have b1 : ∀ c o, H c = some o → upd G wo (.lst ((wk' ++ [a]).map V.ref).dropLast) c = some o := fun c o e => by
      rw [upd_ne (fun y => by rw [y, wo0] at e; cases e)]; exact sG _ _ e
    have w1 : upd G wo (.lst ((wk' ++ [a]).map V.ref).dropLast) wo = some (.lst (wk'.map V.ref)) := by rw [upd_same, edrop]
    have fo1 : upd G wo (.lst ((wk' ++ [a]).map V.ref).dropLast) fo = some (.lst (fnd.map V.ref)) := by rw [upd_ne nfw]; exact hfo
    refine ⟨_, rfl, .inl ⟨rfl, _, SqL.of hwo⟩, wo, _, _, rfl, rfl, hwo, elast, ?_⟩
    generalize upd G wo (.lst ((wk' ++ [a]).map V.ref).dropLast) = G1 at *
    have sG1 : Same H G1 := b1
    refine ⟨a, _, rfl, SqT.of (k1 _ _ ha), rfl, _, _, rfl, _, _, rfl, rfl, ?_⟩
    refine ⟨_, rfl, _, rfl, _, rfl, fa, ja, s0, ds, jmp, rfl, hF.same sG1, sG1 _ _ hJ, J, few, fun m G2 hsm hst hne s2' => ?_⟩
    have sG2 := sG1.trans s2'
    have k2 : KeepU G G2 := k1.trans (KeepU.of s2')
    have hF2 := hF.same sG2
    obtain ⟨xs, hxs, tds⟩ := hF2.ex
    have fo2 := s2' _ _ fo1
    have w2 := s2' _ _ w1
    have hwa2 := hwa.keep k2
    have WL2 := WL'.keep k2
    have fnd2 := hfnd.keep k2
    have p0 : 1 ≤ 2 ^ ifsFrom ds s0 := Nat.one_le_two_pow
    have p3 : 1 ≤ 3 ^ (ds.length + 1 - s0) := Nat.one_le_pow _ _ (by decide)
    refine ⟨_, rfl, _, rfl, fa, _, rfl, .inl (SqL.of hxs), _, _, rfl, rfl, _, rfl, ?_⟩
    rw [tds.len]
    by_cases hle : m < ds.length
    · refine iteN (show ¬ (ds.length : Int) < (m : Int) + 1 by omega) ?_
      obtain ⟨xs', af, ys, hxs', lx, hv, haf, _⟩ := hF2.head hle
      have ex : xs = xs' := by rw [hxs] at hxs'; cases hxs'; rfl
      subst ex
      obtain ⟨hls, hll, hlk⟩ := hwa2
      refine ⟨fun τ G3 => ∃ wb, τ = [some (.ref fa), some (.ref ja), some (.ref fo), some (.ref wo), some (.int ((s0 : Int) + 1)), some (.ref wb), some (.int ((m : Int) + 1)), v7] ∧ Same G2 G3 ∧ WayAt G3 wb ds.length (m + 1) (ls ++ [m]), ?_, ?_⟩
      · refine ⟨_, rfl, _, rfl, (by show 1 ≤ sizeLine; decide), fun t ht => ?_⟩
        have s3' : Same G2 _ := same_new (o := .tup [V.int ((m : Int) + 1)]) ht
        have t3' : upd G2 t (.tup [V.int ((m : Int) + 1)]) t = some (.tup [V.int ((m : Int) + 1)]) := upd_same
        show rCatA _ _ _ (upd G2 t (.tup [V.int ((m : Int) + 1)])) _
        generalize upd G2 t (.tup [V.int ((m : Int) + 1)]) = G3 at *
        refine ⟨wa, t, wayV ls, [V.int ((m : Int) + 1)], rfl, rfl, SqT.of (s3' _ _ hls), SqT.of t3', ?_, fun hn => ⟨t, rfl, s3', ?_⟩, (fun _ h => by cases h), fun _ _ p hp => ⟨p, rfl, s3'.trans (same_new hp), ⟨?_, fun l h => ?_, ?_⟩⟩⟩
        · unfold wayV
          rw [List.length_map, sizeLine_eq]
          show ls.length + 1 ≤ _
          omega
        · have : ls = [] := by unfold wayV at hn; exact List.map_eq_nil_iff.mp hn
          subst this
          exact ⟨t3', fun l h => by rw [List.mem_singleton.mp h]; exact hle, by show 1 ≤ m + 1; omega⟩
        · rw [upd_same]; unfold wayV; rw [List.map_append]; rfl
        · rcases List.mem_append.mp h with h | h
          · exact hll l h
          · rw [List.mem_singleton.mp h]; exact hle
        · rw [List.length_append]; show ls.length + 1 ≤ _; omega
      rintro τ G3 ⟨wb, rfl, s3', hwb⟩
      have sG3 := sG2.trans s3'
      have fo3 := s3' _ _ fo2
      have w3 := s3' _ _ w2
      have WL3 := WL2.keep (KeepU.of s3')
      have fnd3 := fnd2.keep (KeepU.of s3')
      have m1 : 3 ^ (ds.length + 1 - m) ≤ 3 ^ (ds.length + 1 - s0) := pow_le3 (by omega)
      have m2 : 3 ^ (ds.length + 1 - m) = 3 * 3 ^ (ds.length - m) := by
        rw [show ds.length + 1 - m = (ds.length - m) + 1 by omega, Nat.pow_succ]; omega
      have m3 : 1 ≤ 3 ^ (ds.length - m) := Nat.one_le_pow _ _ (by decide)
      have w0 : 2 ^ ifsFrom ds m ≤ 2 ^ ifsFrom ds s0 := pow_le2 (ifs_mono ds hsm)
      refine ⟨_, rfl, _, rfl, _, _, rfl, rfl, fa, xs, _, .ref af, rfl, rfl, SqL.of (s3' _ _ hxs), at_nat hv, af, _, _, .str (headW (ds.getD m .none)), rfl, rfl, Same.tup s3' haf, at_hd _ _, ?_⟩
      refine ⟨_, rfl, ep, _, rfl, .inr tE.sq, rfl, flat_strs endL, _, rfl, ?_⟩
      rw [in_strs]
      by_cases hend : headW (ds.getD m .none) ∈ endL
      · have ku : KeepU G3 (upd G3 fo (.lst (fnd.map V.ref ++ [.ref wb]))) := KeepU.lst fo3
        refine iteY hend ⟨_, rfl, .inl ⟨rfl, _, SqL.of fo3⟩, _, rfl, fo, _, _, rfl, rfl, fo3, (by rw [List.length_map, sizeLine_eq]; omega), ?_⟩
        refine ⟨fnd ++ [wb], wk', ss', FL ++ [ls ++ [m]], _, _, _, _, rfl, fun c o e => ?_, ?_, ?_, WaysL.snoc (hwb.keep ku) (fnd3.keep ku), WI.ends hst hle hend, WL3.keep ku, ?_, by omega⟩
        · rw [upd_ne (fun y => by rw [y, fo0] at e; cases e)]; exact sG3 _ _ e
        · rw [upd_same, List.map_append]; rfl
        · rw [upd_ne nfw.symm]; exact w3
        · rw [List.length_append]; simp only [List.length_cons, List.length_nil]; omega
      refine iteN hend ?_
      refine ⟨fun τ G4 => ∃ (wk2 : List Addr) (ss2 : List (Nat × List Nat)), τ = [some (.ref fa), some (.ref ja), some (.ref fo), some (.ref wo), some (.int ((s0 : Int) + 1)), some (.ref wb), some (.int ((m : Int) + 1)), some (.str (headW (ds.getD m .none)))] ∧ Same H G4 ∧ G4 fo = some (.lst (fnd.map V.ref)) ∧ G4 wo = some (.lst (wk2.map V.ref)) ∧
        WaysL G4 ds.length fnd FL ∧ WInv ds jmp FL (ss2 ++ [(m + 1, ls ++ [m])]) ∧ WayAt G4 wb ds.length (m + 1) (ls ++ [m]) ∧ WorkL G4 ds.length wk2 ss2 ∧ wgt ds ss2 + 2 ^ ifsFrom ds (m + 1) ≤ wgt ds ss' + 2 ^ ifsFrom ds s0 ∧ msr ds.length ss2 + 3 ^ (ds.length - m) < msr ds.length ss' + 3 ^ (ds.length + 1 - s0), ?_, ?_⟩
      · refine ⟨_, rfl, rfl, _, rfl, ?_⟩
        rw [dec_str]
        by_cases hif2 : headW (ds.getD m .none) = "if"
        · obtain ⟨j, hj, hlt⟩ := J m hle (.inl hif2)
          have dg := DGet.k (k := Sum.inl ((m : Int) + 1)) (sG3 _ _ hJ)
          rw [hj] at dg
          have wl : wk'.length = ss'.length := WL'.len
          have wss : ss'.length ≤ wgt ds ss' := by
            unfold wgt
            clear WL' WL WL2 WL3 hw wl WI
            induction ss' with
            | nil => exact Nat.le_refl _
            | cons q qs ih =>
              simp only [List.map_cons, List.sum_cons, List.length_cons]
              have : 1 ≤ 2 ^ ifsFrom ds q.1 := Nat.one_le_two_pow
              omega
          refine iteY hif2 ⟨_, rfl, .inl ⟨rfl, _, SqL.of w3⟩, _, rfl, _, rfl, ja, _, rfl, dg, _, rfl, (by show 2 ≤ sizeLine; decide), fun t ht => ?_⟩
          have s5 : Same G3 _ := same_new (o := .tup [.int j, .ref wb]) ht
          have t5 : upd G3 t (.tup [.int j, .ref wb]) t = some (.tup [.int j, .ref wb]) := upd_same
          generalize upd G3 t (.tup [.int j, .ref wb]) = G5 at *
          have w5 := s5 _ _ w3
          have ku : KeepU G5 (upd G5 wo (.lst (wk'.map V.ref ++ [.ref t]))) := KeepU.lst w5
          have k35 := (KeepU.of s5).trans ku
          have ej : (((j - 1).toNat : Nat) : Int) + 1 = j := by omega
          refine ⟨wo, _, _, rfl, rfl, w5, (by rw [List.length_map, wl, sizeLine_eq]; omega), ?_⟩
          refine ⟨wk' ++ [t], ss' ++ [((j - 1).toNat, ls ++ [m])], rfl, fun c o e => ?_, ?_, ?_, fnd3.keep k35, WI.iff hst hle hif2 (by rw [hj, ej]), hwb.keep k35, WorkL.snoc ⟨wb, ?_, (hwb.keep k35).more (by show m + 1 ≤ (j - 1).toNat; omega)⟩ (WL3.keep k35), ?_, ?_⟩
          · rw [upd_ne (fun y => by rw [y, wo0] at e; cases e)]; exact s5 _ _ (sG3 _ _ e)
          · rw [upd_ne nfw]; exact s5 _ _ fo3
          · rw [upd_same, List.map_append]; rfl
          · rw [ej]; exact ku _ _ t5
          · have a1 := ifs_at ds hle hif2
            have a2 : 2 ^ ifsFrom ds (j - 1).toNat ≤ 2 ^ ifsFrom ds (m + 1) := pow_le2 (ifs_mono ds (by omega))
            have a3 : 2 ^ (ifsFrom ds (m + 1) + 1) ≤ 2 ^ ifsFrom ds m := pow_le2 a1
            rw [Nat.pow_succ] at a3
            rw [wgt_snoc]
            dsimp only
            omega
          · have a4 : 3 ^ (ds.length + 1 - (j - 1).toNat) ≤ 3 ^ (ds.length - m) := pow_le3 (by omega)
            rw [msr_snoc]
            dsimp only
            omega
        · refine iteN hif2 ⟨wk', ss', rfl, sG3, fo3, w3, fnd3, WI.plain hst hle hend hif2, hwb, WL3, ?_, by omega⟩
          have a2 : 2 ^ ifsFrom ds (m + 1) ≤ 2 ^ ifsFrom ds m := pow_le2 (ifs_mono ds (by omega))
          omega
      rintro τ G4 ⟨wk2, ss2, rfl, sG4, fo4, w4', fnd4, WI4, hwb4, WL4, hwg, hms⟩
      have pv1 : 1 ≤ 2 ^ ifsFrom ds (m + 1) := Nat.one_le_two_pow
      have wss2 : ss2.length ≤ wgt ds ss2 := by
        unfold wgt
        clear WL4 hwg hms WI4
        induction ss2 with
        | nil => exact Nat.le_refl _
        | cons q qs ih =>
          simp only [List.map_cons, List.sum_cons, List.length_cons]
          have : 1 ≤ 2 ^ ifsFrom ds q.1 := Nat.one_le_two_pow
          omega
      refine ⟨_, rfl, .inl ⟨rfl, _, SqL.of w4'⟩, _, rfl, _, _, rfl, rfl, _, rfl, (by show 2 ≤ sizeLine; decide), fun t ht => ?_⟩
      have s5 : Same G4 _ := same_new (o := .tup [.int ((m : Int) + 1 + 1), .ref wb]) ht
      have t5 : upd G4 t (.tup [.int ((m : Int) + 1 + 1), .ref wb]) t = some (.tup [.int ((m : Int) + 1 + 1), .ref wb]) := upd_same
      generalize upd G4 t (.tup [.int ((m : Int) + 1 + 1), .ref wb]) = G5 at *
      have w5 := s5 _ _ w4'
      have ku : KeepU G5 (upd G5 wo (.lst (wk2.map V.ref ++ [.ref t]))) := KeepU.lst w5
      have k45 := (KeepU.of s5).trans ku
      refine ⟨wo, _, _, rfl, rfl, w5, (by rw [List.length_map, WL4.len, sizeLine_eq]; omega), ?_⟩
      refine ⟨fnd, wk2 ++ [t], ss2 ++ [(m + 1, ls ++ [m])], FL, _, _, _, _, rfl, fun c o e => ?_, ?_, ?_, fnd4.keep k45, WI4, WorkL.snoc ⟨wb, ?_, hwb4.keep k45⟩ (WL4.keep k45), ?_, ?_⟩
      · rw [upd_ne (fun y => by rw [y, wo0] at e; cases e)]; exact s5 _ _ (sG4 _ _ e)
      · rw [upd_ne nfw]; exact s5 _ _ fo4
      · rw [upd_same, List.map_append]; rfl
      · rw [show (((m + 1 : Nat) : Int) + 1) = (m : Int) + 1 + 1 by omega]; exact ku _ _ t5
      · rw [wgt_snoc]; dsimp only; omega
      · rw [msr_snoc]
        dsimp only
        have : 3 ^ (ds.length + 1 - (m + 1)) = 3 ^ (ds.length - m) := by congr 1; omega
        omega
    · refine iteY (show (ds.length : Int) < (m : Int) + 1 by omega) ?_
      have ku : KeepU G2 (upd G2 fo (.lst (fnd.map V.ref ++ [.ref wa]))) := KeepU.lst fo2
      refine ⟨_, rfl, .inl ⟨rfl, _, SqL.of fo2⟩, _, rfl, fo, _, _, rfl, rfl, fo2, (by rw [List.length_map, sizeLine_eq]; omega), ?_⟩
      refine ⟨fnd ++ [wa], wk', ss', FL ++ [ls], _, _, _, _, rfl, fun c o e => ?_, ?_, ?_, WaysL.snoc (hwa2.keep ku) (fnd2.keep ku), WI.over hst (by omega), WL2.keep ku, ?_, by omega⟩
      · rw [upd_ne (fun y => by rw [y, fo0] at e; cases e)]; exact sG2 _ _ e
      · rw [upd_same, List.map_append]; rfl
      · rw [upd_ne nfw.symm]; exact w2
      · rw [List.length_append]; simp only [List.length_cons, List.length_nil]; omega
end
end IdL
namespace L2
open PySem PySem.Spec PyProof.Rows
/-- x in t, t a tuple of data -/
def rInDT (K : PySem.W.Frag) : R2 := fun x y H Q => ∃ d ds, Dp K H x d ∧ Dp K H y (.tuple ds) ∧ SeqAt.shaped d = true ∧ SeqAt.shaped (.tuple ds) = true ∧ Q (.bl (ds.any fun z => PyData.eqv z d)) H
theorem op_inDT {X : Cx} (hu : X.A.units + 65 < cLine) : OpR X (compareOp .In) (rInDT X.K) := by
  intro pins s σ H x y v u Q I rx ry h
  obtain ⟨d, ds, hd, he, sd, se, q⟩ := h
  obtain ⟨as, r1⟩ := Dp.reads I d x v hd rx
  obtain ⟨bs, r2⟩ := Dp.reads I (.tuple ds) y u he ry
  exact SeqAt.in_tuple_reads r2 r1 (SeqAt.canLay_of_shaped se) (SeqAt.canLay_of_shaped sd) (room_in_shaped sd hu) ⟨.bl _, H, I, rfl, q⟩
/-- a test, cut off by what it comes to -/
def tCut (t : TT) : TT := fun σ H Q => ∃ J : Bool → Hp → Prop, t σ H J ∧ ∀ c G, J c G → Q c G
theorem pt_cut {X : Cx} {e : Expr} {t : TT} (h : PT X e t) : PT X e (tCut t) :=
  ⟨fun pins s σ H Q I ⟨J, h1, h2⟩ => thn (h.run pins s σ H J I h1) fun c s' ⟨H', I', q⟩ => ⟨H', I', h2 c H' q⟩⟩
/-- a value, cut off by what it comes to -/
def tCutE (t : TE) : TE := fun σ H Q => ∃ J : VK, t σ H J ∧ ∀ v G, J v G → Q v G
theorem pe_cut {X : Cx} {e : Expr} {t : TE} (h : PE X e t) : PE X e (tCutE t) :=
  ⟨fun pins s σ H Q I ⟨J, h1, h2⟩ => thn (h.run pins s σ H J I h1) fun u s' ⟨v, H', I', r, q⟩ => ⟨v, H', I', r, h2 v H' q⟩⟩
end L2
namespace IdL
open PySem L2 TL
def namesP : List Str := ["size", "head", "slot", "unit", "slots", "low", "holes", "edge", "len", "own.at", "own.len", "a", "b", "c"]
def roomA : List Str := ["room", "len"]
def roomB : List Str := ["room", "own.len"]
def w2 (ws : List Str) : Str := ws.getD (ws.length - 2) ""
def w1 (ws : List Str) : Str := ws.getD (ws.length - 1) ""
def regD (tg : Str) (ws : List Str) : PyData := if ws = roomA ∨ ws = roomB then .tuple [.str "room", .str tg, .str (ws.getD 1 "")]
  else if 2 < ws.length ∧ w2 ws = "//" then (if isNoneD (sumD (ws.take (ws.length - 2)) namesP) = true ∨ isNum (w1 ws) = false ∨ ¬ (2 ≤ numV (w1 ws) ∧ numV (w1 ws) ≤ 6) then .none else .tuple [.str "divide", .str tg, sumD (ws.take (ws.length - 2)) namesP, .int (numV (w1 ws))])
  else if isNoneD (sumD ws namesP) = true then .none else .tuple [.str "set", .str tg, sumD ws namesP]
structure GloN (K : PySem.W.Frag) (mg : Str → Option Value) : Prop where
  names : ∃ p, mg "NAMES" = some (.ref p) ∧ KTup K p (namesP.map V.str)
structure FSum (K : PySem.W.Frag) (mg : Str → Option Value) (f : Addr) (d : FuncData) : Prop where
  u : Fun K "read_sum" "read_sum" sSum f d
  b : Binds K d ["words", "names"] []
  g : mg "read_sum" = some (.ref f)
abbrev sReg : Stmt := top 107
theorem scReg : FnScope ["target", "words", "terms"] ["target", "words"] (defScope sReg) := ⟨rfl, rfl, rfl, by decide +kernel, rfl, by decide +kernel, by decide +kernel⟩
def spReg (K : PySem.W.Frag) : Sp := fun vs H Q _ => ∃ (tg : Str) (wl : Addr) (ws : List Str), vs = [.str tg, .ref wl] ∧ SqL K H wl (ws.map V.str) ∧ Plain ws ∧
  ∀ v H', Same H H' → TD K H' v (regD tg ws) → Q v H'
theorem at_m2 {ws : List Str} (h : 2 ≤ ws.length) : atI (ws.map V.str) (-2) = some (.str (w2 ws)) := by
  have g2 : (ws.map V.str)[ws.length - 2]? = some (.str (w2 ws)) := by
    unfold w2
    rw [List.getElem?_map, List.getD_eq_getElem?_getD, List.getElem?_eq_getElem (by omega)]; rfl
  rw [← g2, ← List.length_map (f := V.str) (as := ws)]; exact at_back _ 2 (by decide) (by rw [List.length_map]; omega)
theorem at_m1 {ws : List Str} (h : 1 ≤ ws.length) : atI (ws.map V.str) (-1) = some (.str (w1 ws)) := by
  have g2 : (ws.map V.str)[ws.length - 1]? = some (.str (w1 ws)) := by
    unfold w1
    rw [List.getElem?_map, List.getD_eq_getElem?_getD, List.getElem?_eq_getElem (by omega)]; rfl
  rw [← g2, ← List.length_map (f := V.str) (as := ws)]; exact at_back _ 1 (by decide) (by rw [List.length_map]; omega)
section
variable {P : Program} {w : World} {K : PySem.W.Frag} {mg : Str → Option Value} {base : Heap}
theorem ok_reg {f fN fT fS : Addr} {fd dN dT dS : FuncData} (F : Fun K "read_register" "read_register" sReg f fd) (N : FNum K mg fN dN) (M : FTerm K mg fT dT) (S : FSum K mg fS dS) (T : Glo mg) (NM : GloN K mg) : FnOk P w K mg base CX0 4 f fd ["target", "words"] (spReg K) := by
  have ON : FnOk P w K mg base CX0 1 fN dN ["word"] spNum := ok_num N.u T
  have OS : FnOk P w K mg base CX0 3 fS dS ["words", "names"] (spSum K) := ok_sum S.u N M T
  obtain ⟨np, gN, tN⟩ := NM.names
  refine F.ok scReg (fun vs H Q E h => ?_) (fun cdv A outer s H vs Q E hr h => ?_)
  · obtain ⟨tg, wl, ws, rfl, _⟩ := h
    rfl
  · obtain ⟨tg, wl, ws, rfl, hw, pl, k⟩ := h
    have hu := hu_of hr
    have hr1 := hr.mono (show 1 ≤ 3 by decide)
    have hu65 : (A.deeper (PyProof.Rows.envOfC "read_register" (defScope sReg) s.heap.objs.size f cdv)).units + 65 < cLine := by have := hr.un; omega
    refine ⟨_, (pss_cons (ps_if (pt_cmpR (op_inDT hu65) (pv 1) (pe_tup (pa_cons (pe_lst (pa_cons pe_str (pa_cons pe_str pa_nil))) (pa_cons (pe_lst (pa_cons pe_str (pa_cons pe_str pa_nil))) pa_nil))) (by rfl)) (pss_one (ps_ret (pe_tup (pa_cons pe_str (pa_cons (pv 0) (pa_cons (pe_ix ix_list (pv 1) pe_int (fun _ _ => rfl)) pa_nil)))))) pss_nil)
 (pss_join (ps_if (PW.pt (pw_and (pt_cmpR op_gt (pe_callB call_len_seq (by rfl) T.len PySem.boot_len (pa_cons (pv 1) pa_nil)) pe_int (nomark _)) (pw_and1 (pt_cmpR op_eq (pe_ix ix_list (pv 1) (pe_un un_neg pe_int) (fun _ _ => rfl)) pe_str (nomark _))))) (pss_cons (ps_set (i := 2) scReg.nd rfl (.inl rfl) (pe_call OS hr rfl S.g S.u.kp S.b .nil pass0 (pa_cons (pe_slice sl_list (pv 1) po_none (po_some (pe_un un_neg pe_int))) (pa_cons (pe_glob rfl gN (v := .ref np) rfl) pa_nil))))
 (pss_cons (ps_if (PW.pt (pw_or (pt_cmpR op_isN (pv 2) pe_non (nomark _)) (pw_or (pt_not (pt_val (pe_call ON hr1 rfl N.g N.u.kp N.b .nil pass0 (pa_cons (pe_ix ix_list (pv 1) (pe_un un_neg pe_int) (fun _ _ => rfl)) pa_nil)))) (pw_or1 (pt_not (pt_chain op_le op_le pe_int (pe_callTy call_int_str (by rfl) T.int (by decide +kernel) (pa_cons (pe_ix ix_list (pv 1) (pe_un un_neg pe_int) (fun _ _ => rfl)) pa_nil)) pe_int)))))) (pss_one (ps_ret pe_non)) pss_nil)
 (pss_one (ps_ret (pe_tup (pa_cons pe_str (pa_cons (pv 0) (pa_cons (pv 2) (pa_cons (pe_callTy call_int_str (by rfl) T.int (by decide +kernel) (pa_cons (pe_ix ix_list (pv 1) (pe_un un_neg pe_int) (fun _ _ => rfl)) pa_nil)) pa_nil))))))))) pss_nil)
 (pss_cons (ps_set (i := 2) scReg.nd rfl (.inl rfl) (pe_call OS hr rfl S.g S.u.kp S.b .nil pass0 (pa_cons (pv 1) (pa_cons (pe_glob rfl gN (v := .ref np) rfl) pa_nil))))
 (pss_one (ps_ret (pe_ifExp (pt_cmpR op_isN (pv 2) pe_non (nomark _)) pe_non (pe_tup (pa_cons pe_str (pa_cons (pv 0) (pa_cons (pv 2) pa_nil)))))))))), ?_⟩
    have kk : ∀ H', Same H H' → ∀ v, TD K H' v (regD tg ws) → Q v H' := fun H' s v t => k v H' s t
    refine ⟨_, rfl, (by show 2 ≤ sizeLine; decide), fun l1 h1 => ⟨(by show 2 ≤ sizeLine; decide), fun l2 h2 => ⟨(by show 2 ≤ sizeLine; decide), fun t0 h0 => ?_⟩⟩⟩
    have s1 : Same H _ := same_new (o := .lst (roomA.map V.str)) h1
    have s2 : Same (upd H l1 (.lst (roomA.map V.str))) _ := same_new (o := .lst (roomB.map V.str)) h2
    have s3 : Same (upd (upd H l1 (.lst (roomA.map V.str))) l2 (.lst (roomB.map V.str))) _ := same_new (o := .tup [.ref l1, .ref l2]) h0
    have g1 := s3 _ _ (s2 _ _ (upd_same (H := H) (a := l1) (o := .lst (roomA.map V.str))))
    have g2 := s3 _ _ (upd_same (H := upd H l1 (.lst (roomA.map V.str))) (a := l2) (o := .lst (roomB.map V.str)))
    have g3 := upd_same (H := upd (upd H l1 (.lst (roomA.map V.str))) l2 (.lst (roomB.map V.str))) (a := t0) (o := .tup [.ref l1, .ref l2])
    have s03 := (s1.trans s2).trans s3
    show rInDT _ _ _ (upd (upd (upd H l1 (.lst (roomA.map V.str))) l2 (.lst (roomB.map V.str))) t0 (.tup [.ref l1, .ref l2])) _
    generalize upd (upd (upd H l1 (.lst (roomA.map V.str))) l2 (.lst (roomB.map V.str))) t0 (.tup [.ref l1, .ref l2]) = H3 at *
    clear s1 s2 s3
    have hok : ∀ z ∈ ws, PyData.strOk z = true := fun z hz => (pl.asc z hz).ok
    refine ⟨.list (ws.map PyData.str), [.list (roomA.map PyData.str), .list (roomB.map PyData.str)], .lst (s03.seq hw) (strs_dp ws), .tup (SqT.of g3) (.cons (.lst (SqL.of g1) (strs_dp roomA)) (.cons (.lst (SqL.of g2) (strs_dp roomB)) .nil)), strs_shaped hok, (by decide +kernel), ?_⟩
    have ea : (([.list (roomA.map PyData.str), .list (roomB.map PyData.str)] : List PyData).any fun z => PyData.eqv z (.list (ws.map PyData.str))) = (decide (roomA = ws) || decide (roomB = ws)) := by
      rw [← eqv_strs, ← eqv_strs]
      show (PyData.eqvAll _ _ || (PyData.eqvAll _ _ || false)) = _
      rw [Bool.or_false]
    rw [ea]
    refine ⟨_, rfl, ?_⟩
    by_cases hro : ws = roomA ∨ ws = roomB
    · have e1 : regD tg ws = .tuple [.str "room", .str tg, .str (ws.getD 1 "")] := if_pos hro
      have eb : (decide (roomA = ws) || decide (roomB = ws)) = true := by
        rcases hro with e | e
        · rw [decide_eq_true e.symm]; rfl
        · rw [decide_eq_true e.symm, Bool.or_true]
      rw [eb]
      have at1 : atI (ws.map V.str) 1 = some (.str (ws.getD 1 "")) := by
        rcases hro with e | e <;> rw [e] <;> exact atI_nat (j := 1) rfl
      refine iteT ⟨_, rfl, _, rfl, wl, _, _, .str (ws.getD 1 ""), rfl, rfl, s03.seq hw, at1, (by show 3 ≤ sizeLine; decide), fun t ht => ?_⟩
      refine kk _ (s03.trans (same_new ht)) _ ?_
      rw [e1]
      exact .tup (SqT.of upd_same) (.cons (.str _) (.cons (.str _) (.cons (.str _) .nil)))
    have eb : (decide (roomA = ws) || decide (roomB = ws)) = false := by
      rw [decide_eq_false (fun e => hro (.inl e.symm)), decide_eq_false (fun e => hro (.inr e.symm))]; rfl
    rw [eb]
    refine iteF ?_
    have e0 : regD tg ws = if 2 < ws.length ∧ w2 ws = "//" then (if isNoneD (sumD (ws.take (ws.length - 2)) namesP) = true ∨ isNum (w1 ws) = false ∨ ¬ (2 ≤ numV (w1 ws) ∧ numV (w1 ws) ≤ 6) then .none else .tuple [.str "divide", .str tg, sumD (ws.take (ws.length - 2)) namesP, .int (numV (w1 ws))])
      else if isNoneD (sumD ws namesP) = true then .none else .tuple [.str "set", .str tg, sumD ws namesP] := if_neg hro
    rw [e0] at kk
    clear e0 ea eb g1 g2 g3
    refine ⟨fun σ G => σ = [some (.str tg), some (.ref wl), none] ∧ Same H G ∧ ¬ (2 < ws.length ∧ w2 ws = "//"), ?_, ?_⟩
    rotate_left
    · rintro σ G ⟨rfl, sG, hn⟩
      rw [if_neg hn] at kk
      refine ⟨_, rfl, wl, np, ws, namesP, rfl, sG.seq hw, tN.sq, pl, fun v H2 s2 td => ?_⟩
      have s02 := sG.trans s2
      refine ⟨_, rfl, rfl, _, rfl, ?_⟩
      by_cases hv : v = .non
      · rw [if_pos (td.isN.mp hv)] at kk
        exact iteY hv (kk _ s02 _ .non)
      · rw [if_neg fun y => hv (td.isN.mpr y)] at kk
        refine iteN hv ⟨_, rfl, _, rfl, (by show 3 ≤ sizeLine; decide), fun t ht => ?_⟩
        exact kk _ (s02.trans (same_new ht)) _ (.tup (SqT.of upd_same) (.cons (.str _) (.cons (.str _) (.cons (td.keep (KeepT.of (same_new ht))) .nil))))
    refine ⟨_, rfl, wl, _, rfl, .inl (s03.seq hw), _, _, rfl, rfl, _, rfl, ?_⟩
    rw [List.length_map]
    by_cases h2 : 2 < ws.length
    rotate_left
    · exact iteN (show ¬ (2 : Int) < (ws.length : Int) by omega) (iteF ⟨rfl, s03, fun y => h2 y.1⟩)
    refine iteY (show (2 : Int) < (ws.length : Int) by omega) ?_
    have b2 := at_m2 (ws := ws) (by omega)
    have b1 := at_m1 (ws := ws) (by omega)
    have m1 : w1 ws ∈ ws := by
      unfold w1
      rw [List.getD_eq_getElem?_getD, List.getElem?_eq_getElem (by omega)]; exact List.getElem_mem _
    refine ⟨_, rfl, _, rfl, wl, _, _, .str (w2 ws), rfl, rfl, s03.seq hw, b2, rfl, _, rfl, ?_⟩
    rw [dec_str]
    by_cases hd : w2 ws = "//"
    rotate_left
    · exact iteN hd ⟨rfl, s03, fun y => hd y.2⟩
    rw [if_pos ⟨h2, hd⟩] at kk
    refine iteY hd ?_
    have pt := pl.take (ws.length - 2)
    have l1' := pl.len _ m1
    have a1 := pl.asc _ m1
    refine ⟨_, rfl, _, rfl, _, rfl, wl, _, rfl, s03.seq hw, fun p hp => ?_⟩
    have s4 : Same H3 _ := same_new (o := .lst (cutV (ws.map V.str) none (some (-2)))) hp
    have p4 : upd H3 p (.lst (cutV (ws.map V.str) none (some (-2)))) p = some (.lst ((ws.take (ws.length - 2)).map V.str)) := by
      rw [upd_same, show cutV (ws.map V.str) none (some (-2)) = (ws.map V.str).take ((ws.map V.str).length - 2) from cut_but _ 2 (by decide) (by rw [List.length_map]; omega), List.length_map, List.map_take]
    generalize upd H3 p (.lst (cutV (ws.map V.str) none (some (-2)))) = H4 at *
    have s04 := s03.trans s4
    refine ⟨p, np, ws.take (ws.length - 2), namesP, rfl, SqL.of p4, tN.sq, pt, fun v H5 s5 td => ?_⟩
    have s05 := s04.trans s5
    generalize sumD (ws.take (ws.length - 2)) namesP = sd at *
    refine ⟨_, rfl, rfl, _, rfl, ?_⟩
    by_cases hv : v = .non
    · rw [if_pos (.inl (td.isN.mp hv))] at kk
      exact iteY hv (iteT (kk _ s05 _ .non))
    refine iteN hv ⟨_, rfl, _, rfl, wl, _, _, .str (w1 ws), rfl, rfl, s05.seq hw, b1, w1 ws, rfl, (by rw [sizeLine_eq] at *; omega), _, rfl, ?_⟩
    cases en : isNum (w1 ws) with
    | false =>
      rw [en, if_pos (.inr (.inl rfl))] at kk
      exact iteT (kk _ s05 _ .non)
    | true =>
      rw [en] at kk
      obtain ⟨i1, i2⟩ := num_int a1 en
      have hn : ¬ isNoneD sd = true := fun y => hv (td.isN.mpr y)
      generalize numV (w1 ws) = n at *
      refine iteF ⟨_, rfl, _, rfl, wl, _, _, .str (w1 ws), rfl, rfl, s05.seq hw, b1, w1 ws, n, rfl, i1, i2, _, _, rfl, rfl, _, rfl, ?_⟩
      have out : ¬ (2 ≤ n ∧ n ≤ 6) → Q .non H5 := fun y => by
        rw [if_pos (.inr (.inr y))] at kk
        exact kk _ s05 _ .non
      by_cases h2n : 2 ≤ n
      rotate_left
      · exact iteN h2n ⟨_, rfl, out fun y => h2n y.1⟩
      refine iteY h2n ⟨_, _, rfl, rfl, _, rfl, ?_⟩
      by_cases h6 : n ≤ 6
      rotate_left
      · exact iteNN h6 (out fun y => h6 y.2)
      refine iteNS h6 ?_
      rw [if_neg (fun y => by
        rcases y with y | y | y
        · exact hn y
        · cases y
        · exact y ⟨h2n, h6⟩)] at kk
      refine ⟨_, rfl, _, rfl, _, rfl, _, rfl, wl, _, _, .str (w1 ws), rfl, rfl, s05.seq hw, b1, w1 ws, n, rfl, i1, i2, (by show 4 ≤ sizeLine; decide), fun t ht => ?_⟩
      exact kk _ (s05.trans (same_new ht)) _ (.tup (SqT.of upd_same) (.cons (.str _) (.cons (.str _) (.cons (td.keep (KeepT.of (same_new ht))) (.cons (.int _) .nil)))))
end
end IdL
namespace IdL
open PySem L2 TL
def regsL : List Str := ["a", "b", "c"]
def fieldsL : List Str := ["low", "holes"]
def ownL : List Str := ["own.at", "own.len"]
def settD (tg : Str) (ws : List Str) : PyData := if tg ∈ regsL then regD tg ws else if tg ∉ fieldsL ∧ tg ∉ ownL then .none
  else if isNoneD (sumD ws namesP) = true then .none else .tuple [.str (if tg ∈ fieldsL then "field" else "own"), .str tg, sumD ws namesP]
structure GloS3 (K : PySem.W.Frag) (mg : Str → Option Value) : Prop where
  regs : ∃ p, mg "REGISTERS" = some (.ref p) ∧ KTup K p (regsL.map V.str)
  fields : ∃ p, mg "FIELDS" = some (.ref p) ∧ KTup K p (fieldsL.map V.str)
  own : ∃ p, mg "OWN" = some (.ref p) ∧ KTup K p (ownL.map V.str)
structure FReg (K : PySem.W.Frag) (mg : Str → Option Value) (f : Addr) (d : FuncData) : Prop where
  u : Fun K "read_register" "read_register" sReg f d
  b : Binds K d ["target", "words"] []
  g : mg "read_register" = some (.ref f)
abbrev sSett : Stmt := top 108
theorem scSett : FnScope ["target", "words", "terms"] ["target", "words"] (defScope sSett) := ⟨rfl, rfl, rfl, by decide +kernel, rfl, by decide +kernel, by decide +kernel⟩
def spSett (K : PySem.W.Frag) : Sp := fun vs H Q _ => ∃ (tg : Str) (wl : Addr) (ws : List Str), vs = [.str tg, .ref wl] ∧ SqL K H wl (ws.map V.str) ∧ Plain ws ∧
  ∀ v H', Same H H' → TD K H' v (settD tg ws) → Q v H'
section
variable {P : Program} {w : World} {K : PySem.W.Frag} {mg : Str → Option Value} {base : Heap}
theorem ok_sett {f fR fN fT fS : Addr} {fd dR dN dT dS : FuncData} (F : Fun K "read_setting" "read_setting" sSett f fd) (R : FReg K mg fR dR) (N : FNum K mg fN dN) (M : FTerm K mg fT dT) (S : FSum K mg fS dS) (T : Glo mg) (NM : GloN K mg) (G3 : GloS3 K mg) : FnOk P w K mg base CX0 5 f fd ["target", "words"] (spSett K) := by
  have OR : FnOk P w K mg base CX0 4 fR dR ["target", "words"] (spReg K) := ok_reg R.u N M S T NM
  have OS : FnOk P w K mg base CX0 3 fS dS ["words", "names"] (spSum K) := ok_sum S.u N M T
  obtain ⟨np, gN, tN⟩ := NM.names
  obtain ⟨rp, gR, tR⟩ := G3.regs
  obtain ⟨fp, gF, tF⟩ := G3.fields
  obtain ⟨op, gO, tO⟩ := G3.own
  refine F.ok scSett (fun vs H Q E h => ?_) (fun cdv A outer s H vs Q E hr h => ?_)
  · obtain ⟨tg, wl, ws, rfl, _⟩ := h
    rfl
  · obtain ⟨tg, wl, ws, rfl, hw, pl, k⟩ := h
    have hr3 := hr.mono (show 3 ≤ 4 by decide)
    refine ⟨_, (pss_cons (ps_if (pt_cmpR op_in_seq (pv 0) (pe_glob rfl gR (v := .ref rp) rfl) (by rfl)) (pss_one (ps_ret (pe_call OR hr rfl R.g R.u.kp R.b .nil pass0 (pa_cons (pv 0) (pa_cons (pv 1) pa_nil))))) pss_nil)
 (pss_cons (ps_if (pt_cut (PW.pt (pw_and (pt_cmpR op_notIn_seq (pv 0) (pe_glob rfl gF (v := .ref fp) rfl) (by rfl)) (pw_and1 (pt_cmpR op_notIn_seq (pv 0) (pe_glob rfl gO (v := .ref op) rfl) (by rfl)))))) (pss_one (ps_ret pe_non)) pss_nil)
 (pss_cons (ps_set (i := 2) scSett.nd rfl (.inl rfl) (pe_call OS hr3 rfl S.g S.u.kp S.b .nil pass0 (pa_cons (pv 1) (pa_cons (pe_glob rfl gN (v := .ref np) rfl) pa_nil))))
 (pss_cons (ps_if (pt_cmpR op_isN (pv 2) pe_non (nomark _)) (pss_one (ps_ret pe_non)) pss_nil)
 (pss_one (ps_ret (pe_tup (pa_cons (pe_ifExp (pt_cmpR op_in_seq (pv 0) (pe_glob rfl gF (v := .ref fp) rfl) (by rfl)) pe_str pe_str) (pa_cons (pv 0) (pa_cons (pv 2) pa_nil)))))))))), ?_⟩
    have kk : ∀ H', Same H H' → ∀ v, TD K H' v (settD tg ws) → Q v H' := fun H' s v t => k v H' s t
    have e0 : settD tg ws = if tg ∈ regsL then regD tg ws else if tg ∉ fieldsL ∧ tg ∉ ownL then .none
      else if isNoneD (sumD ws namesP) = true then .none else .tuple [.str (if tg ∈ fieldsL then "field" else "own"), .str tg, sumD ws namesP] := rfl
    rw [e0] at kk
    clear e0
    refine ⟨_, rfl, rp, _, rfl, .inr tR.sq, rfl, flat_strs regsL, _, rfl, ?_⟩
    rw [in_strs]
    by_cases h1 : tg ∈ regsL
    · rw [if_pos h1] at kk
      exact iteY h1 ⟨_, rfl, _, rfl, tg, wl, ws, rfl, hw, pl, fun v H2 s2 td => kk _ s2 _ td⟩
    rw [if_neg h1] at kk
    refine iteN h1 ?_
    refine ⟨fun c G => G = H ∧ (c = true ↔ (tg ∉ fieldsL ∧ tg ∉ ownL)), ?_, ?_⟩
    · refine ⟨_, rfl, fp, _, rfl, .inr tF.sq, rfl, flat_strs fieldsL, _, rfl, ?_⟩
      rw [in_strs]
      by_cases h2 : tg ∈ fieldsL
      · refine iteNS h2 ⟨rfl, ⟨fun y => (nomatch y), fun y => absurd h2 y.1⟩⟩
      refine iteNN h2 ⟨_, rfl, op, _, rfl, .inr tO.sq, rfl, flat_strs ownL, _, rfl, ?_⟩
      rw [in_strs]
      by_cases h3 : tg ∈ ownL
      · rw [decide_eq_true h3]
        exact ⟨rfl, ⟨fun y => (nomatch y), fun y => absurd h3 y.2⟩⟩
      · rw [decide_eq_false h3]
        exact ⟨rfl, ⟨fun _ => ⟨h2, h3⟩, fun _ => rfl⟩⟩
    rintro c G ⟨rfl, hc⟩
    cases c with
    | true =>
      rw [if_pos (hc.mp rfl)] at kk
      exact iteT (kk _ (Same.refl _) _ .non)
    | false =>
      rw [if_neg (fun y => nomatch (hc.mpr y))] at kk
      refine iteF ⟨_, rfl, wl, np, ws, namesP, rfl, hw, tN.sq, pl, fun v H2 s2 td => ?_⟩
      generalize sumD ws namesP = sd at *
      refine ⟨_, rfl, rfl, _, rfl, ?_⟩
      by_cases hv : v = .non
      · rw [if_pos (td.isN.mp hv)] at kk
        exact iteY hv (kk _ s2 _ .non)
      · rw [if_neg fun y => hv (td.isN.mpr y)] at kk
        refine iteN hv ⟨_, rfl, fp, _, rfl, .inr tF.sq, rfl, flat_strs fieldsL, _, rfl, ?_⟩
        rw [in_strs]
        by_cases h2 : tg ∈ fieldsL
        · rw [if_pos h2] at kk
          refine iteY h2 ⟨_, rfl, _, rfl, (by show 3 ≤ sizeLine; decide), fun t ht => ?_⟩
          exact kk _ (s2.trans (same_new ht)) _ (.tup (SqT.of upd_same) (.cons (.str _) (.cons (.str _) (.cons (td.keep (KeepT.of (same_new ht))) .nil))))
        · rw [if_neg h2] at kk
          refine iteN h2 ⟨_, rfl, _, rfl, (by show 3 ≤ sizeLine; decide), fun t ht => ?_⟩
          exact kk _ (s2.trans (same_new ht)) _ (.tup (SqT.of upd_same) (.cons (.str _) (.cons (.str _) (.cons (td.keep (KeepT.of (same_new ht))) .nil))))
end
end IdL
namespace IdL
open PySem L2 TL
/-! ### a line of a page code -/
def plainL : List (Str × PyData) := [("else", .tuple [.str "else"]), ("end", .tuple [.str "end"]), ("no", .tuple [.str "no"]), ("quit", .tuple [.str "quit"]), ("pack", .tuple [.str "pack"]), ("clear own", .tuple [.str "clear"]), ("take empty", .tuple [.str "take", .str "empty"]), ("take next", .tuple [.str "take", .str "next"]), ("slots = slots + 1", .tuple [.str "slots", .int 1]), ("slots = slots - 1", .tuple [.str "slots", .int (-1)])]
def phrP : List (Str × Str) := [("there is empty", "empty"), ("own is last", "last")]
def restD (x : Str) (r : List Str) : PyData :=
  if x = "if" then (if isNoneD (testD r namesP phrP) = true then .none else .tuple [.str "if", testD r namesP phrP])
  else if x = "lay" then (if isNoneD (sumD r namesP) = true then .none else .tuple [.str "lay", sumD r namesP])
  else if 2 < (x :: r).length ∧ r.getD 0 "" = "=" then settD x (r.drop 1) else .none
def pageD : List Str → PyData
  | [] => .none
  | x :: r => match plainL.lookup (Txt.join " " (x :: r)) with
    | some d => d
    | none => restD x r
/-- the table of plain lines -/
structure GloPl (K : PySem.W.Frag) (w : World) (mg : Str → Option Value) : Prop where
  pl : ∃ p es n, mg "PLAIN" = some (.ref p) ∧ KDict K w p es n ∧ ∀ z, ∃ r, PySem.W.nsIn K p z = some r ∧ match plainL.lookup z with
    | some d => ∃ t, r = some (.ref t) ∧ ∀ H, TD K H (.ref t) d
    | none => r = none
  phr : ∃ p es n, mg "PHRASES" = some (.ref p) ∧ KDict K w p es n ∧ EsIs es.toList phrP
  dict : mg "dict" = none
structure FSett (K : PySem.W.Frag) (mg : Str → Option Value) (f : Addr) (d : FuncData) : Prop where
  u : Fun K "read_setting" "read_setting" sSett f d
  b : Binds K d ["target", "words"] []
  g : mg "read_setting" = some (.ref f)
structure FTest (K : PySem.W.Frag) (mg : Str → Option Value) (f : Addr) (d : FuncData) : Prop where
  u : Fun K "read_test" "read_test" sTest f d
  b : Binds K d ["words", "names", "phrases"] []
  g : mg "read_test" = some (.ref f)
abbrev sPg : Stmt := top 109
theorem scPg : FnScope ["words", "line", "parts", "terms"] ["words"] (defScope sPg) := ⟨rfl, rfl, rfl, by decide +kernel, rfl, by decide +kernel, by decide +kernel⟩
theorem well_p : Well namesP phrP := ⟨by decide +kernel, by decide +kernel⟩
section
variable {P : Program} {w : World} {K : PySem.W.Frag} {mg : Str → Option Value} {base : Heap}
theorem ok_pg {f fR fT fS : Addr} {fd dR dT dS : FuncData} (F : Fun K "read_page_line" "read_page_line" sPg f fd) (R : FTest K mg fT dT) (S : FSum K mg fS dS) (Se : FSett K mg fR dR) (OT : FnOk P w K mg base CX0 4 fT dT ["words", "names", "phrases"] (spTest K)) (OS : FnOk P w K mg base CX0 3 fS dS ["words", "names"] (spSum K)) (OR : FnOk P w K mg base CX0 5 fR dR ["target", "words"] (spSett K))
    (T : Glo mg) (NM : GloN K mg) (D : GloPl K w mg) : FnOk P w K mg base CX0 6 f fd ["words"] (spRead K pageD) := by
  obtain ⟨np, gN, tN⟩ := NM.names
  obtain ⟨pp, pes, pn, gPl, kPl, hPl⟩ := D.pl
  obtain ⟨hpa, hes, hn, gPh, kPh, eP⟩ := D.phr
  refine F.ok scPg (fun vs H Q E h => ?_) (fun cdv A outer s H vs Q E hr h => ?_)
  · obtain ⟨wl, ws, rfl, _⟩ := h
    rfl
  · obtain ⟨wl, ws, rfl, hne, hw, pl, k⟩ := h
    have hu := hu_of hr
    have hr3 := hr.mono (show 3 ≤ 5 by decide)
    have hr4 := hr.mono (show 4 ≤ 5 by decide)
    refine ⟨_, (pss_cons (ps_set (i := 1) scPg.nd rfl (.inl rfl) (pe_join pe_str (pv 0)))
 (pss_cons (ps_if (pt_cmpR (op_in_kd kPl) (pv 1) (pe_glob rfl gPl (v := .ref pp) rfl) (by rfl)) (pss_one (ps_ret (pe_ix ix_kdict (pe_glob rfl gPl (v := .ref pp) rfl) (pv 1) (fun _ _ => rfl)))) pss_nil)
 (pss_cons (ps_if (pt_cmpR op_eq (pe_ix ix_list (pv 0) pe_int (fun _ _ => rfl)) pe_str (nomark _)) (pss_cons (ps_set (i := 2) scPg.nd rfl (.inl rfl) (pe_call OT hr4 rfl R.g R.u.kp R.b .nil pass0 (pa_cons (pe_slice sl_list (pv 0) (po_some pe_int) po_none) (pa_cons (pe_glob rfl gN (v := .ref np) rfl) (pa_cons (pe_callTy call_dictK (by rfl) D.dict (by decide +kernel) (pa_cons (pe_glob rfl gPh (v := .ref hpa) rfl) pa_nil)) pa_nil)))))
 (pss_one (ps_ret (pe_ifExp (pt_cmpR op_isN (pv 2) pe_non (nomark _)) pe_non (pe_tup (pa_cons pe_str (pa_cons (pv 2) pa_nil))))))) pss_nil)
 (pss_cons (ps_if (pt_cmpR op_eq (pe_ix ix_list (pv 0) pe_int (fun _ _ => rfl)) pe_str (nomark _)) (pss_cons (ps_set (i := 3) scPg.nd rfl (.inl rfl) (pe_call OS hr3 rfl S.g S.u.kp S.b .nil pass0 (pa_cons (pe_slice sl_list (pv 0) (po_some pe_int) po_none) (pa_cons (pe_glob rfl gN (v := .ref np) rfl) pa_nil))))
 (pss_one (ps_ret (pe_ifExp (pt_cmpR op_isN (pv 3) pe_non (nomark _)) pe_non (pe_tup (pa_cons pe_str (pa_cons (pv 3) pa_nil))))))) pss_nil)
 (pss_cons (ps_if (PW.pt (pw_and (pt_cmpR op_gt (pe_callB call_len_seq (by rfl) T.len PySem.boot_len (pa_cons (pv 0) pa_nil)) pe_int (nomark _)) (pw_and1 (pt_cmpR op_eq (pe_ix ix_list (pv 0) pe_int (fun _ _ => rfl)) pe_str (nomark _))))) (pss_one (ps_ret (pe_call OR hr rfl Se.g Se.u.kp Se.b .nil pass0 (pa_cons (pe_ix ix_list (pv 0) pe_int (fun _ _ => rfl)) (pa_cons (pe_slice sl_list (pv 0) (po_some pe_int) po_none) pa_nil))))) pss_nil)
 (pss_one (ps_ret pe_non))))))), ?_⟩
    obtain ⟨x, r, rfl⟩ : ∃ x r, ws = x :: r := by
      cases ws with
      | nil => exact absurd rfl hne
      | cons x r => exact ⟨x, r, rfl⟩
    have kk : ∀ H', Same H H' → ∀ v, TD K H' v (match plainL.lookup (Txt.join " " (x :: r)) with
      | some d => d
      | none => restD x r) → Q v H' := fun H' s v t => k v H' s t
    have tot := pl.tot
    have l1 : (" " : Str).length = 1 := by decide +kernel
    refine ⟨⟨_, rfl⟩, _, rfl, _, wl, x :: r, rfl, rfl, .inl hw, (by rw [l1]; omega), ?_⟩
    generalize Txt.join " " (x :: r) = line at *
    obtain ⟨rr, hns, hrr⟩ := hPl line
    refine ⟨_, rfl, line, rr, rfl, rfl, hns, _, rfl, ?_⟩
    cases hlk : plainL.lookup line with
    | some d =>
      rw [hlk] at hrr kk
      obtain ⟨t, rfl, td⟩ := hrr
      refine iteT ⟨_, rfl, pp, line, .ref t, rfl, rfl, ⟨_, _, _, kPl.at_, kPl.lit, hns, rfl⟩, kk _ (Same.refl H) _ (td H)⟩
    | none =>
      rw [hlk] at hrr kk
      subst hrr
      refine iteF ?_
      have kk : ∀ H', Same H H' → ∀ v, TD K H' v (restD x r) → Q v H' := kk
      unfold restD at kk
      have at0 : atI ((x :: r).map V.str) 0 = some (.str x) := at_0 x r
      refine ⟨_, rfl, wl, _, _, .str x, rfl, rfl, hw, at0, rfl, _, rfl, ?_⟩
      rw [dec_str]
      by_cases h1 : x = "if"
      · rw [if_pos h1] at kk
        refine iteY h1 ⟨_, rfl, _, rfl, wl, _, rfl, hw, fun p hp => ?_⟩
        have s4 : Same H _ := same_new (o := .lst (cutV ((x :: r).map V.str) (some 1) none)) hp
        have p4 : upd H p (.lst (cutV ((x :: r).map V.str) (some 1) none)) p = some (.lst (r.map V.str)) := cut_1
        generalize upd H p (.lst (cutV ((x :: r).map V.str) (some 1) none)) = H4 at *
        refine ⟨hpa, hes, hn, phrP, rfl, kPh, eP, by decide +kernel, (by show 2 ≤ sizeLine; decide), fun ph hph => ?_⟩
        have s5 : Same H4 _ := same_new (o := .dK (phrK phrP)) hph
        have p5 : upd H4 ph (.dK (phrK phrP)) ph = some (.dK (phrK phrP)) := upd_same
        generalize upd H4 ph (.dK (phrK phrP)) = H5 at *
        refine ⟨p, np, ph, r, namesP, phrP, rfl, SqL.of (s5 _ _ p4), tN.sq, p5, pl.drop 1, well_p, fun v H6 s6 td => ?_⟩
        have s06 := (s4.trans s5).trans s6
        generalize testD r namesP phrP = sd at *
        refine ⟨_, rfl, rfl, _, rfl, ?_⟩
        by_cases hv : v = .non
        · rw [if_pos (td.isN.mp hv)] at kk
          exact iteY hv (kk _ s06 _ .non)
        · rw [if_neg fun y => hv (td.isN.mpr y)] at kk
          refine iteN hv ⟨_, rfl, (by show 2 ≤ sizeLine; decide), fun t ht => ?_⟩
          exact kk _ (s06.trans (same_new ht)) _ (.tup (SqT.of upd_same) (.cons (.str _) (.cons (td.keep (KeepT.of (same_new ht))) .nil)))
      rw [if_neg h1] at kk
      refine iteN h1 ⟨_, rfl, wl, _, _, .str x, rfl, rfl, hw, at0, rfl, _, rfl, ?_⟩
      rw [dec_str]
      by_cases h2 : x = "lay"
      · rw [if_pos h2] at kk
        refine iteY h2 ⟨_, rfl, _, rfl, wl, _, rfl, hw, fun p hp => ?_⟩
        have s4 : Same H _ := same_new (o := .lst (cutV ((x :: r).map V.str) (some 1) none)) hp
        have p4 : upd H p (.lst (cutV ((x :: r).map V.str) (some 1) none)) p = some (.lst (r.map V.str)) := cut_1
        generalize upd H p (.lst (cutV ((x :: r).map V.str) (some 1) none)) = H4 at *
        refine ⟨p, np, r, namesP, rfl, SqL.of p4, tN.sq, pl.drop 1, fun v H6 s6 td => ?_⟩
        have s06 := s4.trans s6
        generalize sumD r namesP = sd at *
        refine ⟨_, rfl, rfl, _, rfl, ?_⟩
        by_cases hv : v = .non
        · rw [if_pos (td.isN.mp hv)] at kk
          exact iteY hv (kk _ s06 _ .non)
        · rw [if_neg fun y => hv (td.isN.mpr y)] at kk
          refine iteN hv ⟨_, rfl, (by show 2 ≤ sizeLine; decide), fun t ht => ?_⟩
          exact kk _ (s06.trans (same_new ht)) _ (.tup (SqT.of upd_same) (.cons (.str _) (.cons (td.keep (KeepT.of (same_new ht))) .nil)))
      rw [if_neg h2] at kk
      refine iteN h2 ⟨_, rfl, wl, _, rfl, .inl hw, _, _, rfl, rfl, _, rfl, ?_⟩
      rw [List.length_map]
      by_cases h3 : 2 < (x :: r).length
      rotate_left
      · rw [if_neg (fun y => h3 y.1)] at kk
        exact iteN (show ¬ (2 : Int) < ((x :: r).length : Int) by omega) (iteF (kk _ (Same.refl H) _ .non))
      obtain ⟨y, r', rfl⟩ : ∃ y r', r = y :: r' := by
        cases r with
        | nil => exact absurd h3 (show ¬ (2 < 1) by decide)
        | cons y r' => exact ⟨y, r', rfl⟩
      refine iteY (show (2 : Int) < ((x :: y :: r').length : Int) by omega) ⟨_, rfl, wl, _, _, .str y, rfl, rfl, hw, atI_nat (j := 1) rfl, rfl, _, rfl, ?_⟩
      rw [dec_str]
      by_cases h4 : y = "="
      · rw [if_pos ⟨h3, h4⟩] at kk
        refine iteY h4 ⟨_, rfl, wl, _, _, .str x, rfl, rfl, hw, at0, _, rfl, _, rfl, wl, _, rfl, hw, fun p hp => ?_⟩
        have s4 : Same H _ := same_new (o := .lst (cutV ((x :: y :: r').map V.str) (some 2) none)) hp
        have p4 : upd H p (.lst (cutV ((x :: y :: r').map V.str) (some 2) none)) p = some (.lst (r'.map V.str)) := cut_2
        refine ⟨x, p, r', rfl, SqL.of p4, pl.drop 2, fun v H6 s6 td => ?_⟩
        exact kk _ (s4.trans s6) _ td
      · rw [if_neg (fun z => h4 z.2)] at kk
        exact iteN h4 (kk _ (Same.refl H) _ .non)
end
end IdL
namespace IdL
open PySem L2 TL
/-! ### for which kinds a line is -/
abbrev sLk : Stmt := top 93
theorem scLk : FnScope ["row", "words", "kinds", "kind"] ["row"] (defScope sLk) := ⟨rfl, rfl, rfl, by decide +kernel, rfl, by decide +kernel, by decide +kernel⟩
def kinds4 : List Str := ["put", "strike", "set", "pack"]
def kSS : List Str := ["strike", "set"]
def kPS : List Str := ["put", "set"]
def kA (row : Str) : Bool := decide ((Txt.split row " ").getD 0 "" = "take") || (decide (("there" : Str) ∈ Txt.split row " ") || decide (row = "slots = slots + 1"))
def kC (row : Str) : Bool := decide (row = "clear own") || (decide (("room" : Str) ∈ Txt.split row " ") && decide (("own.len" : Str) ∈ Txt.split row " "))
def kD (row : Str) : Bool := decide (row = "no") || (decide ((Txt.split row " ").getD 0 "" = "lay") || decide (("len" : Str) ∈ Txt.split row " "))
def kE (row : Str) : Bool := decide (("own" : Str) ∈ Txt.split row " ") || (decide (("own.at" : Str) ∈ Txt.split row " ") || decide (("own.len" : Str) ∈ Txt.split row " "))
def ks1 (row : Str) : List Str := if kA row = true then ["put"] else kinds4
def ks2 (row : Str) : List Str := if row = "slots = slots - 1" then ["strike"] else ks1 row
def ks3 (row : Str) : List Str := if kC row = true then (ks2 row).filter (fun k => decide (k ∈ kSS)) else ks2 row
def ks4 (row : Str) : List Str := if kD row = true then (ks3 row).filter (fun k => decide (k ∈ kPS)) else ks3 row
def kindsOf (row : Str) : List Str := if kE row = true then (ks4 row).filter (fun k => decide (k ≠ "pack")) else ks4 row
theorem len_ks2 (row : Str) : (ks2 row).length ≤ 4 := by
  unfold ks2 ks1
  split
  · decide
  · split <;> decide
theorem len_ks3 (row : Str) : (ks3 row).length ≤ 4 := by
  unfold ks3
  split
  · exact Nat.le_trans (List.length_filter_le _ _) (len_ks2 row)
  · exact len_ks2 row
theorem len_ks4 (row : Str) : (ks4 row).length ≤ 4 := by
  unfold ks4
  split
  · exact Nat.le_trans (List.length_filter_le _ _) (len_ks3 row)
  · exact len_ks3 row
def spLk : Sp := fun vs H Q _ => ∃ row : Str, vs = [.str row] ∧ row.length ≤ 1000000 ∧ ∀ (p : Addr) H', Same H H' → H' p = some (.lst ((kindsOf row).map V.str)) → Q (.ref p) H'
section
variable {P : Program} {w : World} {K : PySem.W.Frag} {mg : Str → Option Value} {base : Heap}
theorem ok_lk {f : Addr} {fd : FuncData} (F : Fun K "line_kinds" "line_kinds" sLk f fd) : FnOk P w K mg base CX0 1 f fd ["row"] spLk := by
  refine F.ok scLk (fun vs H Q E h => ?_) (fun cdv A outer s H vs Q E hr h => ?_)
  · obtain ⟨row, rfl, _⟩ := h
    rfl
  · obtain ⟨row, rfl, lr, k⟩ := h
    refine ⟨_, (pss_cons (ps_set (i := 1) scLk.nd rfl (.inl rfl) (pe_split (pv 0) pe_str))
 (pss_cons (ps_set (i := 2) scLk.nd rfl (.inl rfl) (pe_lst (pa_cons pe_str (pa_cons pe_str (pa_cons pe_str (pa_cons pe_str pa_nil))))))
 (pss_join (ps_if (pt_cut (PW.pt (pw_or (pt_cmpR op_eq (pe_ix ix_list (pv 1) pe_int (fun _ _ => rfl)) pe_str (nomark _)) (pw_or (pt_cmpR op_in_seq pe_str (pv 1) (by rfl)) (pw_or1 (pt_cmpR op_eq (pv 0) pe_str (nomark _))))))) (pss_one (ps_set (i := 2) scLk.nd rfl (.inl rfl) (pe_lst (pa_cons pe_str pa_nil)))) pss_nil)
 (pss_join (ps_if (pt_cmpR op_eq (pv 0) pe_str (nomark _)) (pss_one (ps_set (i := 2) scLk.nd rfl (.inl rfl) (pe_lst (pa_cons pe_str pa_nil)))) pss_nil)
 (pss_join (ps_if (pt_cut (PW.pt (pw_or (pt_cmpR op_eq (pv 0) pe_str (nomark _)) (pw_or1 (PW.pt (pw_and (pt_cmpR op_in_seq pe_str (pv 1) (by rfl)) (pw_and1 (pt_cmpR op_in_seq pe_str (pv 1) (by rfl))))))))) (pss_one (ps_setLc (i := 2) (own := [("kind", 3)]) (g := gName 3) (by rfl) scLk.nd rfl rfl (sw_true rfl rfl rfl (by decide +kernel)) (pi_list (pv 2)) (blkOk_by (N := ["row", "words", "kinds", "kind"]) (sc := defScope sLk) (by decide +kernel))
          (fun _ _ _ _ _ => pg_name (i := 3) scLk.nd rfl (.inl rfl)) (fun _ _ _ _ _ => pts_one (pt_cmpR (r := rIn K false) op_in_seq (pv 3) (pe_tup (pa_cons pe_str (pa_cons pe_str pa_nil))) (by rfl))) (fun _ _ _ _ _ => pv 3))) pss_nil)
 (pss_join (ps_if (pt_cut (PW.pt (pw_or (pt_cmpR op_eq (pv 0) pe_str (nomark _)) (pw_or (pt_cmpR op_eq (pe_ix ix_list (pv 1) pe_int (fun _ _ => rfl)) pe_str (nomark _)) (pw_or1 (pt_cmpR op_in_seq pe_str (pv 1) (by rfl))))))) (pss_one (ps_setLc (i := 2) (own := [("kind", 3)]) (g := gName 3) (by rfl) scLk.nd rfl rfl (sw_true rfl rfl rfl (by decide +kernel)) (pi_list (pv 2)) (blkOk_by (N := ["row", "words", "kinds", "kind"]) (sc := defScope sLk) (by decide +kernel))
          (fun _ _ _ _ _ => pg_name (i := 3) scLk.nd rfl (.inl rfl)) (fun _ _ _ _ _ => pts_one (pt_cmpR (r := rIn K false) op_in_seq (pv 3) (pe_tup (pa_cons pe_str (pa_cons pe_str pa_nil))) (by rfl))) (fun _ _ _ _ _ => pv 3))) pss_nil)
 (pss_join (ps_if (pt_cut (PW.pt (pw_or (pt_cmpR op_in_seq pe_str (pv 1) (by rfl)) (pw_or (pt_cmpR op_in_seq pe_str (pv 1) (by rfl)) (pw_or1 (pt_cmpR op_in_seq pe_str (pv 1) (by rfl))))))) (pss_one (ps_setLc (i := 2) (own := [("kind", 3)]) (g := gName 3) (by rfl) scLk.nd rfl rfl (sw_true rfl rfl rfl (by decide +kernel)) (pi_list (pv 2)) (blkOk_by (N := ["row", "words", "kinds", "kind"]) (sc := defScope sLk) (by decide +kernel))
          (fun _ _ _ _ _ => pg_name (i := 3) scLk.nd rfl (.inl rfl)) (fun _ _ _ _ _ => pts_one (pt_cmpR op_ne (pv 3) pe_str (nomark _))) (fun _ _ _ _ _ => pv 3))) pss_nil)
 (pss_one (ps_ret (pv 2)))))))))), ?_⟩
    refine ⟨_, rfl, ⟨_, rfl⟩, row, _, rfl, rfl, (by decide +kernel), (by rw [sizeLine_eq]; omega), fun wl hwl => ?_⟩
    have s1 : Same H _ := same_new (o := .lst ((Txt.split row " ").map V.str)) hwl
    have g1 : upd H wl (.lst ((Txt.split row " ").map V.str)) wl = some (.lst ((Txt.split row " ").map V.str)) := upd_same
    generalize upd H wl (.lst ((Txt.split row " ").map V.str)) = H1 at *
    obtain ⟨x0, r0, e0⟩ : ∃ x r, Txt.split row " " = x :: r := by
      have := row_ne row
      revert this
      generalize Txt.split row " " = l
      intro h
      cases l with
      | nil => exact absurd rfl h
      | cons x r => exact ⟨x, r, rfl⟩
    have eA : kA row = (decide (x0 = "take") || (decide (("there" : Str) ∈ Txt.split row " ") || decide (row = "slots = slots + 1"))) := by unfold kA; rw [e0]; rfl
    have eD : kD row = (decide (row = "no") || (decide (x0 = "lay") || decide (("len" : Str) ∈ Txt.split row " "))) := by unfold kD; rw [e0]; rfl
    have g1' : H1 wl = some (.lst ((x0 :: r0).map V.str)) := by rw [g1, e0]
    have fl : ((Txt.split row " ").map V.str).all flatV = true := flat_strs _
    refine ⟨(by show 4 ≤ sizeLine; decide), fun p0 hp0 => ?_⟩
    have s2 : Same H1 _ := same_new (o := .lst (kinds4.map V.str)) hp0
    have g2 : upd H1 p0 (.lst (kinds4.map V.str)) p0 = some (.lst (kinds4.map V.str)) := upd_same
    show gName 2 _ _ (upd H1 p0 (.lst (kinds4.map V.str))) _
    generalize upd H1 p0 (.lst (kinds4.map V.str)) = H2 at *
    refine ⟨fun τ G => ∃ p v3, τ = [some (.str row), some (.ref wl), some (.ref p), v3] ∧ Same H1 G ∧ G p = some (.lst ((ks1 row).map V.str)), ?_, ?_⟩
    · refine ⟨fun c G => Same H2 G ∧ c = kA row, ?_, ?_⟩
      · rw [eA]
        refine ⟨_, rfl, wl, _, _, .str x0, rfl, rfl, SqL.of (s2 _ _ g1'), at_0 x0 r0, rfl, _, rfl, ?_⟩
        rw [dec_str]
        by_cases h : x0 = "take"
        · rw [decide_eq_true h]; exact iteT ⟨Same.refl _, rfl⟩
        rw [decide_eq_false h]
        refine iteF ⟨_, rfl, wl, _, rfl, .inl (SqL.of (s2 _ _ g1)), rfl, fl, _, rfl, ?_⟩
        rw [in_strs]
        by_cases h : ("there" : Str) ∈ Txt.split row " "
        · refine iteY h ⟨Same.refl _, ?_⟩
          rw [decide_eq_true h]; rfl
        refine iteN h ⟨_, rfl, rfl, _, rfl, Same.refl _, ?_⟩
        rw [dec_str, decide_eq_false h]; rfl
      rintro c G ⟨sG, hc⟩
      cases c with
      | true => exact iteT ⟨(by show 1 ≤ sizeLine; decide), fun q hq => ⟨q, _, rfl, (s2.trans sG).trans (same_new hq), by rw [upd_same, show ks1 row = (["put"] : List Str) from if_pos hc.symm]; rfl⟩⟩
      | false => exact iteF ⟨p0, _, rfl, s2.trans sG, by rw [show ks1 row = kinds4 from if_neg (by rw [← hc]; decide)]; exact sG _ _ g2⟩
    rintro τ G ⟨p, v3, rfl, sG, hp⟩
    refine ⟨fun τ G => ∃ p v3, τ = [some (.str row), some (.ref wl), some (.ref p), v3] ∧ Same H1 G ∧ G p = some (.lst ((ks2 row).map V.str)), ?_, ?_⟩
    · refine ⟨_, rfl, rfl, _, rfl, ?_⟩
      rw [dec_str]
      by_cases h : row = "slots = slots - 1"
      · exact iteY h ⟨(by show 1 ≤ sizeLine; decide), fun q hq => ⟨q, _, rfl, sG.trans (same_new hq), by rw [upd_same, show ks2 row = (["strike"] : List Str) from if_pos h]; rfl⟩⟩
      · exact iteN h ⟨p, _, rfl, sG, by rw [show ks2 row = ks1 row from if_neg h]; exact hp⟩
    clear hp sG g2 s2
    rintro τ G ⟨p, v3, rfl, sG, hp⟩
    have hw := sG _ _ g1
    have hw' := sG _ _ g1'
    refine ⟨fun τ G => ∃ p v3, τ = [some (.str row), some (.ref wl), some (.ref p), v3] ∧ Same H1 G ∧ G p = some (.lst ((ks3 row).map V.str)), ?_, ?_⟩
    · refine ⟨fun c G' => G = G' ∧ c = kC row, ?_, ?_⟩
      · unfold kC
        refine ⟨_, rfl, rfl, _, rfl, ?_⟩
        rw [dec_str]
        by_cases h : row = "clear own"
        · rw [decide_eq_true h]; exact iteT ⟨rfl, rfl⟩
        rw [decide_eq_false h]
        refine iteF ⟨_, rfl, wl, _, rfl, .inl (SqL.of hw), rfl, fl, _, rfl, ?_⟩
        rw [in_strs]
        by_cases h : ("room" : Str) ∈ Txt.split row " "
        rotate_left
        · refine iteN h ⟨rfl, ?_⟩
          rw [decide_eq_false h]; rfl
        refine iteY h ⟨_, rfl, wl, _, rfl, .inl (SqL.of hw), rfl, fl, _, rfl, rfl, ?_⟩
        rw [in_strs, decide_eq_true h]; rfl
      rintro c G' ⟨rfl, hc⟩
      cases c with
      | false =>
        exact iteF ⟨p, _, rfl, sG, by rw [show ks3 row = ks2 row from if_neg (by rw [← hc]; decide)]; exact hp⟩
      | true =>
        refine iteT ?_
        rw [show ks3 row = (ks2 row).filter (fun k => decide (k ∈ kSS)) from if_pos hc.symm] 
        generalize hks : ks2 row = ks at *
        have lk : ks.length ≤ 4 := by rw [← hks]; exact len_ks2 row
        refine ⟨_, rfl, p, rfl, ⟨_, SqL.of hp⟩, fun D hD => lc_list (K := K) (a := p) (xs := ks.map V.str) (fun i G' => Same G G' ∧ G' D = some (.lst (((ks.take i).filter fun k => decide (k ∈ kSS)).map V.str))) ⟨same_new hD, upd_same⟩ (fun i G' _ ⟨s', _⟩ => SqL.of (s' _ _ hp)) ?_ ?_⟩
        · rintro i x G' hi ⟨s', hG⟩
          rw [List.getElem?_map] at hi
          obtain ⟨z, hz, rfl⟩ := Option.map_eq_some_iff.mp hi
          have hi2 := (List.getElem?_eq_some_iff.mp hz).1
          have len : ((ks.take i).filter fun k => decide (k ∈ kSS)).length ≤ i := Nat.le_trans (List.length_filter_le _ _) (by rw [List.length_take]; omega)
          rw [List.take_add_one, hz, List.filter_append]
          have b0 : ([z].filter fun k => decide (k ∈ kSS)) = if decide (z ∈ kSS) = true then [z] else [] := by rw [List.filter_cons]; rfl
          refine ⟨rfl, _, rfl, (by show 2 ≤ sizeLine; decide), fun T hT => ?_⟩
          have s7 : Same G' _ := same_new (o := .tup (kSS.map V.str)) hT
          have t7 : upd G' T (.tup (kSS.map V.str)) T = some (.tup (kSS.map V.str)) := upd_same
          show rIn _ _ _ _ (upd G' T (.tup (kSS.map V.str))) _
          generalize upd G' T (.tup (kSS.map V.str)) = G7 at *
          refine ⟨T, _, rfl, .inr (SqT.of t7), rfl, flat_strs kSS, _, rfl, ?_⟩
          rw [in_strs]
          by_cases h : z ∈ kSS
          · refine iteY h ⟨_, rfl, _, s7 _ _ hG, (by rw [List.length_map, sizeLine_eq]; omega), fun c o e => ?_, ?_⟩
            · rw [upd_ne (fun y => by rw [y, hD] at e; cases e)]; exact s7 _ _ (s' _ _ e)
            · show _ = some (HO.lst ((_ ++ [z].filter fun k => decide (k ∈ kSS)).map V.str))
              rw [b0, decide_eq_true h, if_pos rfl, upd_same, List.map_append]; rfl
          · refine iteN h ⟨s'.trans s7, ?_⟩
            show G7 D = some (HO.lst ((_ ++ [z].filter fun k => decide (k ∈ kSS)).map V.str))
            rw [b0, decide_eq_false h, if_neg (by decide), List.append_nil]
            exact s7 _ _ hG
        · rintro G' ⟨s', hG⟩
          rw [List.length_map, List.take_length] at hG
          exact ⟨D, _, rfl, sG.trans s', hG⟩
    clear hp sG hw hw'
    rintro τ G ⟨p, v3, rfl, sG, hp⟩
    have hw := sG _ _ g1
    have hw' := sG _ _ g1'
    refine ⟨fun τ G => ∃ p v3, τ = [some (.str row), some (.ref wl), some (.ref p), v3] ∧ Same H1 G ∧ G p = some (.lst ((ks4 row).map V.str)), ?_, ?_⟩
    · refine ⟨fun c G' => G = G' ∧ c = kD row, ?_, ?_⟩
      · rw [eD]
        refine ⟨_, rfl, rfl, _, rfl, ?_⟩
        rw [dec_str]
        by_cases h : row = "no"
        · rw [decide_eq_true h]; exact iteT ⟨rfl, rfl⟩
        rw [decide_eq_false h]
        refine iteF ⟨_, rfl, wl, _, _, .str x0, rfl, rfl, SqL.of hw', at_0 x0 r0, rfl, _, rfl, ?_⟩
        rw [dec_str]
        by_cases h : x0 = "lay"
        · rw [decide_eq_true h]; exact iteT ⟨rfl, rfl⟩
        rw [decide_eq_false h]
        refine iteF ⟨_, rfl, wl, _, rfl, .inl (SqL.of hw), rfl, fl, _, rfl, rfl, ?_⟩
        rw [in_strs]; rfl
      rintro c G' ⟨rfl, hc⟩
      cases c with
      | false =>
        exact iteF ⟨p, _, rfl, sG, by rw [show ks4 row = ks3 row from if_neg (by rw [← hc]; decide)]; exact hp⟩
      | true =>
        refine iteT ?_
        rw [show ks4 row = (ks3 row).filter (fun k => decide (k ∈ kPS)) from if_pos hc.symm] 
        generalize hks : ks3 row = ks at *
        have lk : ks.length ≤ 4 := by rw [← hks]; exact len_ks3 row
        refine ⟨_, rfl, p, rfl, ⟨_, SqL.of hp⟩, fun D hD => lc_list (K := K) (a := p) (xs := ks.map V.str) (fun i G' => Same G G' ∧ G' D = some (.lst (((ks.take i).filter fun k => decide (k ∈ kPS)).map V.str))) ⟨same_new hD, upd_same⟩ (fun i G' _ ⟨s', _⟩ => SqL.of (s' _ _ hp)) ?_ ?_⟩
        · rintro i x G' hi ⟨s', hG⟩
          rw [List.getElem?_map] at hi
          obtain ⟨z, hz, rfl⟩ := Option.map_eq_some_iff.mp hi
          have hi2 := (List.getElem?_eq_some_iff.mp hz).1
          have len : ((ks.take i).filter fun k => decide (k ∈ kPS)).length ≤ i := Nat.le_trans (List.length_filter_le _ _) (by rw [List.length_take]; omega)
          rw [List.take_add_one, hz, List.filter_append]
          have b0 : ([z].filter fun k => decide (k ∈ kPS)) = if decide (z ∈ kPS) = true then [z] else [] := by rw [List.filter_cons]; rfl
          refine ⟨rfl, _, rfl, (by show 2 ≤ sizeLine; decide), fun T hT => ?_⟩
          have s7 : Same G' _ := same_new (o := .tup (kPS.map V.str)) hT
          have t7 : upd G' T (.tup (kPS.map V.str)) T = some (.tup (kPS.map V.str)) := upd_same
          show rIn _ _ _ _ (upd G' T (.tup (kPS.map V.str))) _
          generalize upd G' T (.tup (kPS.map V.str)) = G7 at *
          refine ⟨T, _, rfl, .inr (SqT.of t7), rfl, flat_strs kPS, _, rfl, ?_⟩
          rw [in_strs]
          by_cases h : z ∈ kPS
          · refine iteY h ⟨_, rfl, _, s7 _ _ hG, (by rw [List.length_map, sizeLine_eq]; omega), fun c o e => ?_, ?_⟩
            · rw [upd_ne (fun y => by rw [y, hD] at e; cases e)]; exact s7 _ _ (s' _ _ e)
            · show _ = some (HO.lst ((_ ++ [z].filter fun k => decide (k ∈ kPS)).map V.str))
              rw [b0, decide_eq_true h, if_pos rfl, upd_same, List.map_append]; rfl
          · refine iteN h ⟨s'.trans s7, ?_⟩
            show G7 D = some (HO.lst ((_ ++ [z].filter fun k => decide (k ∈ kPS)).map V.str))
            rw [b0, decide_eq_false h, if_neg (by decide), List.append_nil]
            exact s7 _ _ hG
        · rintro G' ⟨s', hG⟩
          rw [List.length_map, List.take_length] at hG
          exact ⟨D, _, rfl, sG.trans s', hG⟩
    clear hp sG hw hw'
    rintro τ G ⟨p, v3, rfl, sG, hp⟩
    have hw := sG _ _ g1
    have s0G := s1.trans sG
    refine ⟨fun τ G => ∃ p v3, τ = [some (.str row), some (.ref wl), some (.ref p), v3] ∧ Same H1 G ∧ G p = some (.lst ((kindsOf row).map V.str)), ?_, ?_⟩
    · refine ⟨fun c G' => G = G' ∧ c = kE row, ?_, ?_⟩
      · unfold kE
        refine ⟨_, rfl, wl, _, rfl, .inl (SqL.of hw), rfl, fl, _, rfl, ?_⟩
        rw [in_strs]
        by_cases h : ("own" : Str) ∈ Txt.split row " "
        · refine iteY h ⟨rfl, ?_⟩
          rw [decide_eq_true h]; rfl
        rw [decide_eq_false h]
        refine iteF ⟨_, rfl, wl, _, rfl, .inl (SqL.of hw), rfl, fl, _, rfl, ?_⟩
        rw [in_strs]
        by_cases h : ("own.at" : Str) ∈ Txt.split row " "
        · refine iteY h ⟨rfl, ?_⟩
          rw [decide_eq_true h]; rfl
        rw [decide_eq_false h]
        refine iteF ⟨_, rfl, wl, _, rfl, .inl (SqL.of hw), rfl, fl, _, rfl, rfl, ?_⟩
        rw [in_strs]; rfl
      rintro c G' ⟨rfl, hc⟩
      cases c with
      | false =>
        exact iteF ⟨p, _, rfl, sG, by rw [show kindsOf row = ks4 row from if_neg (by rw [← hc]; decide)]; exact hp⟩
      | true =>
        refine iteT ?_
        rw [show kindsOf row = (ks4 row).filter (fun k : Str => decide (k ≠ "pack")) from if_pos hc.symm]
        generalize hks : ks4 row = ks at *
        have lk : ks.length ≤ 4 := by rw [← hks]; exact len_ks4 row
        refine ⟨_, rfl, p, rfl, ⟨_, SqL.of hp⟩, fun D hD => lc_list (K := K) (a := p) (xs := ks.map V.str) (fun i G' => Same G G' ∧ G' D = some (.lst (((ks.take i).filter fun k : Str => decide (k ≠ "pack")).map V.str))) ⟨same_new hD, upd_same⟩ (fun i G' _ ⟨s', _⟩ => SqL.of (s' _ _ hp)) ?_ ?_⟩
        · rintro i x G' hi ⟨s', hG⟩
          rw [List.getElem?_map] at hi
          obtain ⟨z, hz, rfl⟩ := Option.map_eq_some_iff.mp hi
          have hi2 := (List.getElem?_eq_some_iff.mp hz).1
          have len : ((ks.take i).filter fun k : Str => decide (k ≠ "pack")).length ≤ i := Nat.le_trans (List.length_filter_le _ _) (by rw [List.length_take]; omega)
          rw [List.take_add_one, hz, List.filter_append]
          have b0 : ([z].filter fun k : Str => decide (k ≠ "pack")) = if decide (z ≠ "pack") = true then [z] else [] := by rw [List.filter_cons]; rfl
          refine ⟨rfl, _, rfl, rfl, _, rfl, ?_⟩
          by_cases h : z = "pack"
          · refine iteNS (show V.str z = V.str "pack" by rw [h]) ⟨s', ?_⟩
            show G' D = some (HO.lst ((_ ++ [z].filter fun k : Str => decide (k ≠ "pack")).map V.str))
            rw [b0, decide_eq_false (fun y => y h), if_neg (by decide), List.append_nil]
            exact hG
          · refine iteNN (strN h) ⟨_, rfl, _, hG, (by rw [List.length_map, sizeLine_eq]; omega), fun c o e => ?_, ?_⟩
            · rw [upd_ne (fun y => by rw [y, hD] at e; cases e)]; exact s' _ _ e
            · show _ = some (HO.lst ((_ ++ [z].filter fun k : Str => decide (k ≠ "pack")).map V.str))
              rw [b0, decide_eq_true h, if_pos rfl, upd_same, List.map_append]; rfl
        · rintro G' ⟨s', hG⟩
          rw [List.length_map, List.take_length] at hG
          exact ⟨D, _, rfl, sG.trans s', hG⟩
    clear hp sG s0G hw
    rintro τ G ⟨p, v3, rfl, sG, hp⟩
    exact ⟨_, rfl, k p G (s1.trans sG) hp⟩
end
end IdL
namespace IdL
open PySem L2 TL
/-! ### what a line of a page code is counted as -/
def sNamed : List Str := ["set", "room", "own"]
def sOnce : List Str := ["take", "clear", "pack", "lay", "slots"]
def strD : PyData → Str
  | .str z => z
  | _ => ""
/-- the names that a form is counted under -/
def cntN : PyData → List Str
  | .tuple (.str w :: r) => if w = "divide" then [strD (r.getD 0 .none), "//"] else if w ∈ sNamed then [strD (r.getD 0 .none)] else if w ∈ sOnce then [w] else []
  | _ => []
/-- a form of a page code -/
structure PgOk (d : PyData) : Prop where
  ex : ∃ (w : Str) (r : List PyData), d = .tuple (.str w :: r) ∧ (w = "divide" ∨ w ∈ sNamed → ∃ (t : Str) (r' : List PyData), r = .str t :: r')
def isEmptyP : PyData → Bool
  | .tuple [_, .str o, _, _] => decide (o = "empty")
  | _ => false
abbrev sCn : Stmt := top 94
theorem scCn : FnScope ["form", "word"] ["form"] (defScope sCn) := ⟨rfl, rfl, rfl, by decide +kernel, rfl, by decide +kernel, by decide +kernel⟩
def spCn (K : PySem.W.Frag) : Sp := fun vs H Q _ => ∃ (v : V) (d : PyData), vs = [v] ∧ TD K H v d ∧ PgOk d ∧ ∀ (p : Addr) H', Same H H' → H p = none → H' p = some (.lst ((cntN d).map V.str)) → Q (.ref p) H'
def mostN (z : Str) : Int := if z = "//" then 2 else if z ∈ regsL then 3 else 1
structure GloM (mg : Str → Option Value) : Prop where
  div : ∃ t, mg "MOST_DIVISIONS" = some (.int 2 t)
  set_ : ∃ t, mg "MOST_SETTINGS" = some (.int 3 t)
abbrev sMo : Stmt := top 95
theorem scMo : FnScope ["name"] ["name"] (defScope sMo) := ⟨rfl, rfl, rfl, by decide +kernel, rfl, by decide +kernel, by decide +kernel⟩
def spMo : Sp := fun vs H Q _ => ∃ z : Str, vs = [.str z] ∧ ∀ H', Same H H' → Q (.int (mostN z)) H'
section
variable {P : Program} {w : World} {K : PySem.W.Frag} {mg : Str → Option Value} {base : Heap}
theorem ok_mo {f : Addr} {fd : FuncData} (F : Fun K "most_of" "most_of" sMo f fd) (G : GloM mg) : FnOk P w K mg base CX0 1 f fd ["name"] spMo := by
  obtain ⟨t1, g1⟩ := G.div
  obtain ⟨t2, g2⟩ := G.set_
  refine F.ok scMo (fun vs H Q E h => ?_) (fun cdv A outer s H vs Q E hr h => ?_)
  · obtain ⟨z, rfl, _⟩ := h
    rfl
  · obtain ⟨z, rfl, k⟩ := h
    refine ⟨_, (pss_cons (ps_if (pt_cmpR op_eq (pv 0) pe_str (nomark _)) (pss_one (ps_ret (pe_glob rfl g1 (v := .int 2) ⟨_, rfl⟩))) pss_nil)
 (pss_one (ps_ret (pe_ifExp (pt_cmpR op_in_seq (pv 0) (pe_tup (pa_cons pe_str (pa_cons pe_str (pa_cons pe_str pa_nil)))) (by rfl)) (pe_glob rfl g2 (v := .int 3) ⟨_, rfl⟩) pe_int)))), ?_⟩
    unfold mostN at k
    refine ⟨_, rfl, rfl, _, rfl, ?_⟩
    rw [dec_str]
    by_cases h : z = "//"
    · rw [if_pos h] at k
      exact iteY h (k _ (Same.refl H))
    rw [if_neg h] at k
    refine iteN h ⟨_, rfl, (by show 3 ≤ sizeLine; decide), fun T hT => ?_⟩
    have s7 : Same H _ := same_new (o := .tup (regsL.map V.str)) hT
    have t7 : upd H T (.tup (regsL.map V.str)) T = some (.tup (regsL.map V.str)) := upd_same
    show rIn _ _ _ _ (upd H T (.tup (regsL.map V.str))) _
    generalize upd H T (.tup (regsL.map V.str)) = G7 at *
    refine ⟨T, _, rfl, .inr (SqT.of t7), rfl, flat_strs regsL, _, rfl, ?_⟩
    rw [in_strs]
    by_cases h2 : z ∈ regsL
    · rw [if_pos h2] at k; exact iteY h2 (k _ s7)
    · rw [if_neg h2] at k; exact iteN h2 (k _ s7)
theorem ok_cn {f : Addr} {fd : FuncData} (F : Fun K "counted_names" "counted_names" sCn f fd) : FnOk P w K mg base CX0 1 f fd ["form"] (spCn K) := by
  refine F.ok scCn (fun vs H Q E h => ?_) (fun cdv A outer s H vs Q E hr h => ?_)
  · obtain ⟨v, d, rfl, _⟩ := h
    rfl
  · obtain ⟨v, d, rfl, td, ok, k⟩ := h
    refine ⟨_, (pss_cons (ps_set (i := 1) scCn.nd rfl (.inl rfl) (pe_ix ix_tup (pv 0) pe_int (fun _ _ => rfl)))
 (pss_cons (ps_if (pt_cmpR op_eq (pv 1) pe_str (nomark _)) (pss_one (ps_ret (pe_lst (pa_cons (pe_ix ix_tup (pv 0) pe_int (fun _ _ => rfl)) (pa_cons pe_str pa_nil))))) pss_nil)
 (pss_cons (ps_if (pt_cmpR op_in_seq (pv 1) (pe_tup (pa_cons pe_str (pa_cons pe_str (pa_cons pe_str pa_nil)))) (by rfl)) (pss_one (ps_ret (pe_lst (pa_cons (pe_ix ix_tup (pv 0) pe_int (fun _ _ => rfl)) pa_nil)))) pss_nil)
 (pss_cons (ps_if (pt_cmpR op_in_seq (pv 1) (pe_tup (pa_cons pe_str (pa_cons pe_str (pa_cons pe_str (pa_cons pe_str (pa_cons pe_str pa_nil)))))) (by rfl)) (pss_one (ps_ret (pe_lst (pa_cons (pv 1) pa_nil)))) pss_nil)
 (pss_one (ps_ret (pe_lst pa_nil))))))), ?_⟩
    obtain ⟨w0, r, rfl, hr1⟩ := ok.ex
    obtain ⟨a, xs, rfl, ha, ts⟩ := td.tupl
    obtain ⟨ys, rfl⟩ : ∃ ys, xs = .str w0 :: ys := by
      cases ts with
      | cons t1 _ => cases t1; exact ⟨_, rfl⟩
    have hsec : ∀ (t : Str) (r' : List PyData), r = .str t :: r' → ∃ zs, ys = .str t :: zs := fun t r' e => by
      subst e
      cases ts with
      | cons t1 ts =>
        cases ts with
        | cons t2 _ => cases t2; exact ⟨_, rfl⟩
    have ec : cntN (.tuple (.str w0 :: r)) = if w0 = "divide" then [strD (r.getD 0 .none), "//"] else if w0 ∈ sNamed then [strD (r.getD 0 .none)] else if w0 ∈ sOnce then [w0] else [] := rfl
    rw [ec] at k
    clear ec
    refine ⟨_, rfl, a, _, _, .str w0, rfl, rfl, ha, at_hd _ _, ?_⟩
    refine ⟨_, rfl, rfl, _, rfl, ?_⟩
    rw [dec_str]
    by_cases h1 : w0 = "divide"
    · rw [if_pos h1] at k
      obtain ⟨t, r', e⟩ := hr1 (.inl h1)
      obtain ⟨zs, rfl⟩ := hsec t r' e
      subst e
      exact iteY h1 ⟨_, rfl, a, _, _, .str t, rfl, rfl, ha, atI_nat (j := 1) rfl, (by show 2 ≤ sizeLine; decide), fun q hq => k q _ (same_new hq) hq upd_same⟩
    rw [if_neg h1] at k
    refine iteN h1 ⟨_, rfl, (by show 3 ≤ sizeLine; decide), fun T hT => ?_⟩
    have s7 : Same H _ := same_new (o := .tup (sNamed.map V.str)) hT
    have t7 : upd H T (.tup (sNamed.map V.str)) T = some (.tup (sNamed.map V.str)) := upd_same
    show rIn _ _ _ _ (upd H T (.tup (sNamed.map V.str))) _
    generalize upd H T (.tup (sNamed.map V.str)) = G7 at *
    refine ⟨T, _, rfl, .inr (SqT.of t7), rfl, flat_strs sNamed, _, rfl, ?_⟩
    rw [in_strs]
    have ha7 := Same.tup s7 ha
    by_cases h2 : w0 ∈ sNamed
    · rw [if_pos h2] at k
      obtain ⟨t, r', e⟩ := hr1 (.inr h2)
      obtain ⟨zs, rfl⟩ := hsec t r' e
      subst e
      exact iteY h2 ⟨_, rfl, a, _, _, .str t, rfl, rfl, ha7, atI_nat (j := 1) rfl, (by show 1 ≤ sizeLine; decide), fun q hq => k q _ (s7.trans (same_new hq)) (s7.free hq) upd_same⟩
    rw [if_neg h2] at k
    refine iteN h2 ⟨_, rfl, (by show 5 ≤ sizeLine; decide), fun T2 hT2 => ?_⟩
    have s8 : Same G7 _ := same_new (o := .tup (sOnce.map V.str)) hT2
    have t8 : upd G7 T2 (.tup (sOnce.map V.str)) T2 = some (.tup (sOnce.map V.str)) := upd_same
    show rIn _ _ _ _ (upd G7 T2 (.tup (sOnce.map V.str))) _
    generalize upd G7 T2 (.tup (sOnce.map V.str)) = G8 at *
    have s08 := s7.trans s8
    refine ⟨T2, _, rfl, .inr (SqT.of t8), rfl, flat_strs sOnce, _, rfl, ?_⟩
    rw [in_strs]
    by_cases h3 : w0 ∈ sOnce
    · rw [if_pos h3] at k
      exact iteY h3 ⟨_, rfl, (by show 1 ≤ sizeLine; decide), fun q hq => k q _ (s08.trans (same_new hq)) (s08.free hq) upd_same⟩
    · rw [if_neg h3] at k
      exact iteN h3 ⟨Nat.zero_le _, fun q hq => k q _ (s08.trans (same_new hq)) (s08.free hq) upd_same⟩
end
end IdL
namespace IdL
open PySem L2 TL
/-- whether a form asks for an empty slot -/
def asksE : PyData → Bool
  | .tuple [.str w, .tuple ps] => decide (w = "if") && decide (0 < (ps.filter isEmptyP).length)
  | _ => false
def PartOk (d : PyData) : Prop := ∃ (b : Bool) (o : Str) (l r : PyData), d = .tuple [.bool b, .str o, l, r]
structure IfOk (d : PyData) : Prop where
  hd : ∃ (w : Str) (r : List PyData), d = .tuple (.str w :: r) ∧ (w = "if" → ∃ ps, r = [.tuple ps] ∧ (∀ p ∈ ps, PartOk p) ∧ ps.length ≤ 1000)
abbrev sAe : Stmt := top 96
theorem scAe : FnScope ["form", "part"] ["form"] (defScope sAe) := ⟨rfl, rfl, rfl, by decide +kernel, rfl, by decide +kernel, by decide +kernel⟩
def spAe (K : PySem.W.Frag) : Sp := fun vs H Q _ => ∃ (v : V) (d : PyData), vs = [v] ∧ TD K H v d ∧ IfOk d ∧ ∀ H', Same H H' → Q (.bl (asksE d)) H'
theorem asksE_not {w : Str} {r : List PyData} (h : ¬ w = "if") : asksE (.tuple (.str w :: r)) = false := by
  unfold asksE
  split
  · rename_i w' ps e
    injection e with e
    injection e with e1 e2
    injection e1 with e1
    subst e1
    rw [decide_eq_false h]; rfl
  · rfl
section
variable {P : Program} {w : World} {K : PySem.W.Frag} {mg : Str → Option Value} {base : Heap}
theorem ok_ae {f : Addr} {fd : FuncData} (F : Fun K "asks_empty" "asks_empty" sAe f fd) (T : Glo mg) : FnOk P w K mg base CX0 1 f fd ["form"] (spAe K) := by
  refine F.ok scAe (fun vs H Q E h => ?_) (fun cdv A outer s H vs Q E hr h => ?_)
  · obtain ⟨v, d, rfl, _⟩ := h
    rfl
  · obtain ⟨v, d, rfl, td, ok, k⟩ := h
    refine ⟨_, (pss_one (ps_ret (pe_and (pe_cmpR op_eq (pe_ix ix_tup (pv 0) pe_int (fun _ _ => rfl)) pe_str (nomark _)) (pe_one (pe_cmpR op_gt (pe_callB call_len_seq (by rfl) T.len PySem.boot_len (pa_cons (pe_lc (own := [("part", 1)]) (g := gName 1) rfl scAe.nd (pi_tup (pe_ix ix_tup (pv 0) pe_int (fun _ _ => rfl))) (blkOk_by (N := ["form", "part"]) (sc := defScope sAe) (by decide +kernel))
        (fun _ _ _ _ _ => pg_name (i := 1) scAe.nd rfl (.inl rfl)) (fun _ _ _ _ _ => pts_one (pt_cmpR op_eq (pe_ix (r := rIxT K) ix_tup (pv 1) pe_int (fun _ _ => rfl)) pe_str (nomark _))) (fun _ _ _ _ _ => pv 1)) pa_nil)) pe_int (nomark _)))))), ?_⟩
    obtain ⟨w0, r, rfl, hif⟩ := ok.hd
    obtain ⟨a, xs, rfl, ha, ts⟩ := td.tupl
    obtain ⟨ys, rfl⟩ : ∃ ys, xs = .str w0 :: ys := by
      cases ts with
      | cons t1 _ => cases t1; exact ⟨_, rfl⟩
    refine ⟨_, rfl, a, _, _, .str w0, rfl, rfl, ha, at_hd _ _, rfl, _, rfl, ?_⟩
    rw [dec_str]
    by_cases h1 : w0 = "if"
    rotate_left
    · rw [asksE_not h1] at k
      rw [decide_eq_false h1]
      exact iteF (k _ (Same.refl H))
    obtain ⟨ps, rfl, hps, hl⟩ := hif h1
    have ek : asksE (.tuple [.str w0, .tuple ps]) = decide (0 < (ps.filter isEmptyP).length) := by
      show (decide (w0 = "if") && decide (0 < (ps.filter isEmptyP).length)) = _
      rw [decide_eq_true h1, Bool.true_and]
    rw [ek] at k
    cases ts with
    | cons t1 ts =>
      cases ts with
      | cons t2 ts =>
        cases ts
        obtain ⟨pa, zs, rfl, hpa, tz⟩ := t2.tupl
        refine iteY h1 ⟨_, rfl, a, _, _, .ref pa, rfl, rfl, ha, atI_nat (j := 1) rfl, pa, rfl, ⟨_, hpa⟩, fun D hD => lc_tup (K := K) (a := pa) (xs := zs) (fun i G => Same H G ∧ ∃ acc : List V, G D = some (.lst acc) ∧ acc.length = ((ps.take i).filter isEmptyP).length) ⟨same_new hD, [], upd_same, rfl⟩ (fun i G _ ⟨sG, _⟩ => Same.tup sG hpa) ?_ ?_⟩
        · rintro i x G hi ⟨sG, acc, hG, la⟩
          obtain ⟨d, hd, tdd⟩ := (tz.keep (KeepT.of sG)).get i hi
          have hi' := (List.getElem?_eq_some_iff.mp hd).1
          obtain ⟨b, o, l, r2, rfl⟩ := hps d (List.mem_of_getElem? hd)
          obtain ⟨q, qs, rfl, hq, tq⟩ := tdd.tupl
          obtain ⟨v1, qs', rfl⟩ : ∃ v1 qs', qs = v1 :: .str o :: qs' := by
            cases tq with
            | cons u1 tq =>
              cases tq with
              | cons u2 _ => cases u2; exact ⟨_, _, rfl⟩
          have lt : ((ps.take i).filter isEmptyP).length ≤ i := Nat.le_trans (List.length_filter_le _ _) (by rw [List.length_take]; exact Nat.min_le_left _ _)
          rw [List.take_add_one, hd, List.filter_append]
          have b0 : ([PyData.tuple [.bool b, .str o, l, r2]].filter isEmptyP) = if decide (o = "empty") = true then [PyData.tuple [.bool b, .str o, l, r2]] else [] := by rw [List.filter_cons]; rfl
          refine ⟨rfl, _, rfl, q, _, _, .str o, rfl, rfl, hq, atI_nat (j := 1) rfl, rfl, _, rfl, ?_⟩
          rw [dec_str]
          by_cases ho : o = "empty"
          · refine iteY ho ⟨_, rfl, _, hG, (by rw [sizeLine_eq]; omega), fun c u e => ?_, acc ++ [.ref q], upd_same, ?_⟩
            · rw [upd_ne (fun y => by rw [y, hD] at e; cases e)]; exact sG _ _ e
            · show (acc ++ [V.ref q]).length = ((_ ++ [PyData.tuple [.bool b, .str o, l, r2]].filter isEmptyP)).length
              rw [b0, decide_eq_true ho, if_pos rfl, List.length_append, List.length_append, la]; rfl
          · refine iteN ho ⟨sG, acc, hG, ?_⟩
            show acc.length = ((_ ++ [PyData.tuple [.bool b, .str o, l, r2]].filter isEmptyP)).length
            rw [b0, decide_eq_false ho, if_neg (by decide), List.append_nil, la]
        · rintro G ⟨sG, acc, hG, la⟩
          rw [tz.len, List.take_length] at la
          refine ⟨D, _, rfl, .inl (SqL.of hG), _, _, rfl, rfl, ?_⟩
          have kk := k G sG
          rw [← la] at kk
          have e : decide ((0 : Int) < (acc.length : Int)) = decide (0 < acc.length) := by
            by_cases h : 0 < acc.length
            · rw [decide_eq_true h, decide_eq_true (show (0 : Int) < (acc.length : Int) by omega)]
            · rw [decide_eq_false h, decide_eq_false (show ¬ (0 : Int) < (acc.length : Int) by omega)]
          rw [← e] at kk
          exact kk
end
end IdL
namespace IdL
open PySem L2 TL
/-! ### whether a line breaks a limit -/
def placedL : List Str := ["own.at", "own.len", "slots"]
def layL : List Str := ["lay"]
/-- counts as they lie: what was counted at all is in the dict -/
def CntAt (kvs : List (Key × V)) (c : Str → Nat) : Prop := ∀ z, valV kvs (.inr z) = if 0 < c z then some (.int (c z)) else none
def anyIn (c : Str → Nat) (l : List Str) : Bool := decide (0 < (l.filter fun z => decide (0 < c z)).length)
def brkL (d : PyData) (c : Str → Nat) : Bool := if (cntN d).any (fun z => decide (mostN z ≤ (c z : Int))) = true then true
  else if headW d = "pack" then anyIn c (placedL ++ layL) else if headW d = "take" ∨ asksE d = true then anyIn c placedL else false
structure GloPc (K : PySem.W.Frag) (mg : Str → Option Value) : Prop where
  pl : ∃ p, mg "PLACED" = some (.ref p) ∧ KTup K p (placedL.map V.str)
structure FCn (K : PySem.W.Frag) (mg : Str → Option Value) (f : Addr) (d : FuncData) : Prop where
  u : Fun K "counted_names" "counted_names" sCn f d
  b : Binds K d ["form"] []
  g : mg "counted_names" = some (.ref f)
structure FMo (K : PySem.W.Frag) (mg : Str → Option Value) (f : Addr) (d : FuncData) : Prop where
  u : Fun K "most_of" "most_of" sMo f d
  b : Binds K d ["name"] []
  g : mg "most_of" = some (.ref f)
structure FAe (K : PySem.W.Frag) (mg : Str → Option Value) (f : Addr) (d : FuncData) : Prop where
  u : Fun K "asks_empty" "asks_empty" sAe f d
  b : Binds K d ["form"] []
  g : mg "asks_empty" = some (.ref f)
abbrev sBl : Stmt := top 97
theorem scBl : FnScope ["form", "counts", "name"] ["form", "counts"] (defScope sBl) := ⟨rfl, rfl, rfl, by decide +kernel, rfl, by decide +kernel, by decide +kernel⟩
def spBl (K : PySem.W.Frag) : Sp := fun vs H Q _ => ∃ (v : V) (cd : Addr) (d : PyData) (kvs : List (Key × V)) (c : Str → Nat), vs = [v, .ref cd] ∧ TD K H v d ∧ PgOk d ∧ IfOk d ∧ H cd = some (.dK kvs) ∧ CntAt kvs c ∧ ∀ H', Same H H' → Q (.bl (brkL d c)) H'
theorem take_snoc' {α : Type} {l : List α} {n : Nat} {a : α} (h : l[n]? = some a) : l.take (n + 1) = l.take n ++ [a] := by
  rw [List.take_add_one, h]; rfl
section
variable {P : Program} {w : World} {K : PySem.W.Frag} {mg : Str → Option Value} {base : Heap}
theorem ok_bl {f fC fM fA : Addr} {fd dC dM dA : FuncData} (F : Fun K "breaks_limit" "breaks_limit" sBl f fd) (C : FCn K mg fC dC) (M : FMo K mg fM dM) (AE : FAe K mg fA dA) (GM : GloM mg) (GP : GloPc K mg) (T : Glo mg) : FnOk P w K mg base CX0 2 f fd ["form", "counts"] (spBl K) := by
  have OC : FnOk P w K mg base CX0 1 fC dC ["form"] (spCn K) := ok_cn C.u
  have OM : FnOk P w K mg base CX0 1 fM dM ["name"] spMo := ok_mo M.u GM
  have OA : FnOk P w K mg base CX0 1 fA dA ["form"] (spAe K) := ok_ae AE.u T
  obtain ⟨pp, gP, tP⟩ := GP.pl
  refine F.ok scBl (fun vs H Q E h => ?_) (fun cdv A outer s H vs Q E hr h => ?_)
  · obtain ⟨v, cd, d, kvs, c, rfl, _⟩ := h
    rfl
  · obtain ⟨v, cd, d, kvs, c, rfl, td, ok, okI, hcd, hc, k⟩ := h
    have hu := hu_of hr
    refine ⟨_, (pss_cons (ps_for PassesOwn.never rfl (pi_list (pe_call OC hr rfl C.g C.u.kp C.b .nil pass0 (pa_cons (pv 0) pa_nil))) (pg_name (i := 2) scBl.nd rfl (.inl rfl))
        (pss_one (ps_if (pt_cmpR op_ge (pe_dget2 hu (pv 1) (pv 2) pe_int ⟨rfl, rfl, rfl, rfl⟩) (pe_call OM hr rfl M.g M.u.kp M.b .nil pass0 (pa_cons (pv 2) pa_nil)) (nomark _)) (pss_one (ps_ret pe_bl)) pss_nil)))
 (pss_cons (ps_if (pt_cmpR op_eq (pe_ix ix_tup (pv 0) pe_int (fun _ _ => rfl)) pe_str (nomark _)) (pss_one (ps_ret (pe_cmpR op_gt (pe_callB call_len_seq (by rfl) T.len PySem.boot_len (pa_cons (pe_lc (own := [("name", 2)]) (g := gName 2) rfl scBl.nd (pi_tup (pe_op op_catA (pe_glob rfl gP (v := .ref pp) rfl) (pe_tup (pa_cons pe_str pa_nil)))) (blkOk_by (N := ["form", "counts", "name"]) (sc := defScope sBl) (by decide +kernel))
          (fun _ _ _ _ _ => pg_name (i := 2) scBl.nd rfl (.inl rfl)) (fun _ _ _ _ _ => pts_one (pt_cmp (pc_din hu (pv 2) (pv 1)))) (fun _ _ _ _ _ => pv 2)) pa_nil)) pe_int (nomark _)))) pss_nil)
 (pss_cons (ps_if (pt_cut (PW.pt (pw_or (pt_cmpR op_eq (pe_ix ix_tup (pv 0) pe_int (fun _ _ => rfl)) pe_str (nomark _)) (pw_or1 (pt_val (pe_call OA hr rfl AE.g AE.u.kp AE.b .nil pass0 (pa_cons (pv 0) pa_nil))))))) (pss_one (ps_ret (pe_cmpR op_gt (pe_callB call_len_seq (by rfl) T.len PySem.boot_len (pa_cons (pe_lc (own := [("name", 2)]) (g := gName 2) rfl scBl.nd (pi_tup (pe_glob rfl gP (v := .ref pp) rfl)) (blkOk_by (N := ["form", "counts", "name"]) (sc := defScope sBl) (by decide +kernel))
          (fun _ _ _ _ _ => pg_name (i := 2) scBl.nd rfl (.inl rfl)) (fun _ _ _ _ _ => pts_one (pt_cmp (pc_din hu (pv 2) (pv 1)))) (fun _ _ _ _ _ => pv 2)) pa_nil)) pe_int (nomark _)))) pss_nil)
 (pss_one (ps_ret pe_bl))))), ?_⟩
    obtain ⟨w0, r, ed, hr1⟩ := ok.ex
    have eh : headW d = w0 := by rw [ed]; rfl
    have eb : brkL d c = if (cntN d).any (fun z => decide (mostN z ≤ (c z : Int))) = true then true
      else if w0 = "pack" then anyIn c (placedL ++ layL) else if w0 = "take" ∨ asksE d = true then anyIn c placedL else false := by unfold brkL; rw [eh]
    rw [eb] at k
    refine ⟨_, rfl, v, d, rfl, td, ok, fun np H1 s1 np0 hnp => ?_⟩
    have lcn : (cntN d).length ≤ 2 := by
      rw [ed]
      show (if w0 = "divide" then [strD (r.getD 0 .none), ("//" : Str)] else if w0 ∈ sNamed then [strD (r.getD 0 .none)] else if w0 ∈ sOnce then [w0] else []).length ≤ 2
      split
      · exact Nat.le_refl _
      · split
        · exact (by decide : 1 ≤ 2)
        · split
          · exact (by decide : 1 ≤ 2)
          · exact Nat.zero_le _
    refine ⟨np, rfl, ⟨_, SqL.of hnp⟩, for_list (K := K) (a := np) (xs := (cntN d).map V.str) (fun i σ G => ∃ v2, σ = [some v, some (.ref cd), v2] ∧ Same H1 G ∧ ((cntN d).take i).any (fun z => decide (mostN z ≤ (c z : Int))) = false) ⟨none, rfl, Same.refl _, rfl⟩ (fun i σ G _ ⟨_, _, s, _⟩ => SqL.of (s _ _ hnp)) ?_ ?_⟩
    · rintro i x σ G hi ⟨v2, rfl, s2, hno⟩
      rw [List.getElem?_map] at hi
      obtain ⟨z, hz, rfl⟩ := Option.map_eq_some_iff.mp hi
      have hz2 := List.mem_of_getElem? hz
      have s02 := s1.trans s2
      have hcG := s02 _ _ hcd
      have hval : (valV kvs (.inr z)).getD (.int 0) = .int (c z) := by
        rw [hc z]
        split
        · rfl
        · rename_i h
          rw [show c z = 0 by omega]; rfl
      refine ⟨_, rfl, cd, rfl, .inl ⟨_, .inl hcG⟩, _, rfl, _, DGet.k (k := Sum.inr z) hcG, ?_⟩
      rw [hval]
      refine ⟨_, rfl, z, rfl, fun G3 s3 => ⟨_, _, rfl, rfl, _, rfl, ?_⟩⟩
      by_cases h : mostN z ≤ (c z : Int)
      · refine iteY h (?_)
        rw [if_pos (List.any_eq_true.mpr ⟨z, hz2, decide_eq_true h⟩)] at k
        exact k _ (s02.trans s3)
      · refine iteN h ⟨_, rfl, s2.trans s3, ?_⟩
        rw [List.take_add_one, hz, List.any_append, hno]
        show (false || (decide (mostN z ≤ (c z : Int)) || false)) = false
        rw [decide_eq_false h]; rfl
    rintro σ G ⟨v2, rfl, s2, hno⟩
    rw [List.length_map, List.take_length] at hno
    rw [if_neg (by rw [hno]; decide)] at k
    have s02 := s1.trans s2
    have hcG := s02 _ _ hcd
    have tdG := td.keep (KeepT.of s02)
    rw [ed] at tdG
    obtain ⟨a, xs, rfl, ha, ts⟩ := tdG.tupl
    obtain ⟨ys, rfl⟩ : ∃ ys, xs = .str w0 :: ys := by
      cases ts with
      | cons t1 _ => cases t1; exact ⟨_, rfl⟩
    refine ⟨_, rfl, a, _, _, .str w0, rfl, rfl, ha, at_hd _ _, rfl, _, rfl, ?_⟩
    rw [dec_str]
    by_cases h1 : w0 = "pack"
    · rw [if_pos h1] at k
      refine iteY h1 ⟨(by show 1 ≤ sizeLine; decide), fun l hl => ⟨pp, l, _, _, rfl, rfl, tP.sq, SqT.of upd_same, (by show 4 ≤ sizeLine; decide), (fun h => nomatch h), (fun _ h => nomatch h), fun _ _ p hp => ?_⟩⟩
      have s3 := (same_new (o := .tup (layL.map V.str)) hl).trans (same_new (o := .tup ((placedL ++ layL).map V.str)) hp)
      have tp := SqT.of (K := K) (upd_same (H := upd G l (.tup (layL.map V.str))) (a := p) (o := .tup ((placedL ++ layL).map V.str)))
      have hc7 := s3 _ _ hcG
      have s07 := s02.trans s3
      refine ⟨p, rfl, ⟨_, tp⟩, fun D hD => lc_tup (K := K) (a := p) (xs := (placedL ++ layL).map V.str) (fun i G' => Same (upd (upd G l (.tup (layL.map V.str))) p (.tup ((placedL ++ layL).map V.str))) G' ∧ ∃ acc : List V, G' D = some (.lst acc) ∧ acc.length = (((placedL ++ layL).take i).filter fun z => decide (0 < c z)).length) ⟨same_new hD, [], upd_same, rfl⟩ (fun i G' _ ⟨sG, _⟩ => Same.tup sG tp) ?_ ?_⟩
      · rintro i x G' hi ⟨sG, acc, hG, la⟩
        rw [List.getElem?_map] at hi
        obtain ⟨z, hz, rfl⟩ := Option.map_eq_some_iff.mp hi
        have hi2 := (List.getElem?_eq_some_iff.mp hz).1
        have lt : (((placedL ++ layL).take i).filter fun z => decide (0 < c z)).length ≤ i := Nat.le_trans (List.length_filter_le _ _) (by rw [List.length_take]; omega)
        have l4 : (placedL ++ layL).length ≤ 4 := by decide
        rw [take_snoc' hz, List.filter_append]
        have b0 : ([z].filter fun z => decide (0 < c z)) = if decide (0 < c z) = true then [z] else [] := by rw [List.filter_cons]; rfl
        refine ⟨rfl, _, rfl, _, rfl, cd, _, rfl, DGet.k (k := Sum.inr z) (sG _ _ hc7), _, rfl, ?_⟩
        rw [hc z]
        by_cases h : 0 < c z
        · rw [if_pos h]
          refine iteT ⟨_, rfl, _, hG, (by rw [sizeLine_eq]; omega), fun u o e => ?_, acc ++ [.str z], upd_same, ?_⟩
          · rw [upd_ne (fun y => by rw [y] at e; exact absurd (e.symm.trans hD) (fun z => nomatch z))]; exact sG _ _ e
          · rw [b0, decide_eq_true h, if_pos rfl, List.length_append, List.length_append, la]; rfl
        · rw [if_neg h]
          refine iteF ⟨sG, acc, hG, ?_⟩
          rw [b0, decide_eq_false h, if_neg (by decide), List.append_nil, la]
      · rintro G' ⟨sG, acc, hG, la⟩
        rw [List.length_map, List.take_length] at la
        refine ⟨D, _, rfl, .inl (SqL.of hG), _, _, rfl, rfl, ?_⟩
        have kk := k G' (s07.trans sG)
        unfold anyIn at kk
        rw [← la] at kk
        have e : decide ((0 : Int) < (acc.length : Int)) = decide (0 < acc.length) := by
          by_cases h : 0 < acc.length
          · rw [decide_eq_true h, decide_eq_true (show (0 : Int) < (acc.length : Int) by omega)]
          · rw [decide_eq_false h, decide_eq_false (show ¬ (0 : Int) < (acc.length : Int) by omega)]
        rw [← e] at kk
        exact kk
    rw [if_neg h1] at k
    refine iteN h1 ?_
    refine ⟨fun c' G' => Same G G' ∧ c' = (decide (w0 = "take") || asksE d), ?_, ?_⟩
    · refine ⟨_, rfl, a, _, _, .str w0, rfl, rfl, ha, at_hd _ _, rfl, _, rfl, ?_⟩
      rw [dec_str]
      by_cases h : w0 = "take"
      · rw [decide_eq_true h]; exact iteT ⟨Same.refl _, rfl⟩
      rw [decide_eq_false h]
      refine iteF ⟨_, rfl, .ref a, d, rfl, ?_, okI, fun G3 s3 => ⟨_, rfl, s3, (Bool.false_or _).symm⟩⟩
      exact td.keep (KeepT.of s02)
    rintro c' G7 ⟨s3, hc'⟩
    have s07 := s02.trans s3
    have hc7 := s3 _ _ hcG
    cases c' with
    | false =>
      have hn : ¬ (w0 = "take" ∨ asksE d = true) := fun y => by
        rcases y with y | y
        · rw [decide_eq_true y] at hc'; cases hc'
        · rw [y, Bool.or_true] at hc'; cases hc'
      rw [if_neg hn] at k
      exact iteF (k _ s07)
    | true =>
      have hn : w0 = "take" ∨ asksE d = true := by
        by_cases y : w0 = "take"
        · exact .inl y
        · rw [decide_eq_false y, Bool.false_or] at hc'; exact .inr hc'.symm
      rw [if_pos hn] at k
      refine iteT ?_
      refine ⟨pp, rfl, ⟨_, tP.sq⟩, fun D hD => lc_tup (K := K) (a := pp) (xs := (placedL).map V.str) (fun i G' => Same G7 G' ∧ ∃ acc : List V, G' D = some (.lst acc) ∧ acc.length = (((placedL).take i).filter fun z => decide (0 < c z)).length) ⟨same_new hD, [], upd_same, rfl⟩ (fun i G' _ ⟨sG, _⟩ => tP.sq) ?_ ?_⟩
      · rintro i x G' hi ⟨sG, acc, hG, la⟩
        rw [List.getElem?_map] at hi
        obtain ⟨z, hz, rfl⟩ := Option.map_eq_some_iff.mp hi
        have hi2 := (List.getElem?_eq_some_iff.mp hz).1
        have lt : (((placedL).take i).filter fun z => decide (0 < c z)).length ≤ i := Nat.le_trans (List.length_filter_le _ _) (by rw [List.length_take]; omega)
        have l4 : (placedL).length ≤ 4 := by decide
        rw [take_snoc' hz, List.filter_append]
        have b0 : ([z].filter fun z => decide (0 < c z)) = if decide (0 < c z) = true then [z] else [] := by rw [List.filter_cons]; rfl
        refine ⟨rfl, _, rfl, _, rfl, cd, _, rfl, DGet.k (k := Sum.inr z) (sG _ _ hc7), _, rfl, ?_⟩
        rw [hc z]
        by_cases h : 0 < c z
        · rw [if_pos h]
          refine iteT ⟨_, rfl, _, hG, (by rw [sizeLine_eq]; omega), fun u o e => ?_, acc ++ [.str z], upd_same, ?_⟩
          · rw [upd_ne (fun y => by rw [y, hD] at e; cases e)]; exact sG _ _ e
          · rw [b0, decide_eq_true h, if_pos rfl, List.length_append, List.length_append, la]; rfl
        · rw [if_neg h]
          refine iteF ⟨sG, acc, hG, ?_⟩
          rw [b0, decide_eq_false h, if_neg (by decide), List.append_nil, la]
      · rintro G' ⟨sG, acc, hG, la⟩
        rw [List.length_map, List.take_length] at la
        refine ⟨D, _, rfl, .inl (SqL.of hG), _, _, rfl, rfl, ?_⟩
        have kk := k G' (s07.trans sG)
        unfold anyIn at kk
        rw [← la] at kk
        have e : decide ((0 : Int) < (acc.length : Int)) = decide (0 < acc.length) := by
          by_cases h : 0 < acc.length
          · rw [decide_eq_true h, decide_eq_true (show (0 : Int) < (acc.length : Int) by omega)]
          · rw [decide_eq_false h, decide_eq_false (show ¬ (0 : Int) < (acc.length : Int) by omega)]
        rw [← e] at kk
        exact kk
end
end IdL
namespace IdL
open PySem L2 TL
/-! ### the first line of a way beyond a limit -/
def addC (c : Str → Nat) (z : Str) : Str → Nat := fun y => if y = z then c y + 1 else c y
def addN (c : Str → Nat) (ns : List Str) : Str → Nat := ns.foldl addC c
def wayGoP (ds : List PyData) : List Nat → (Str → Nat) → Option Nat
  | [], _ => none
  | l :: ls, c => if brkL (ds.getD l .none) c = true then some l else wayGoP ds ls (addN c (cntN (ds.getD l .none)))
theorem wayP_cons (ds : List PyData) (l : Nat) (ls : List Nat) (c : Str → Nat) : wayGoP ds (l :: ls) c = if brkL (ds.getD l .none) c = true then some l else wayGoP ds ls (addN c (cntN (ds.getD l .none))) := rfl
def lineV : Option Nat → V
  | none => .non
  | some n => .int ((n : Int) + 1)
theorem cnt_put {kvs : List (Key × V)} {c : Str → Nat} (h : CntAt kvs c) (z : Str) : CntAt (putK kvs (.inr z) (.int ((c z : Int) + 1))) (addC c z) := fun y => by
  rw [valV_put]
  unfold addC
  by_cases e : y = z
  · subst e
    rw [if_pos rfl, if_pos rfl, if_pos (by omega)]; rfl
  · rw [if_neg (fun q => e (Sum.inr.inj q)), if_neg e]
    exact h y
theorem cntN_len (d : PyData) : (cntN d).length ≤ 2 := by
  unfold cntN
  split
  · split
    · exact Nat.le_refl _
    · split
      · exact (by decide : 1 ≤ 2)
      · split
        · exact (by decide : 1 ≤ 2)
        · exact Nat.zero_le _
  · exact Nat.zero_le _
abbrev sWb : Stmt := top 98
theorem scWb : FnScope ["forms", "way", "counts", "line", "form", "name"] ["forms", "way"] (defScope sWb) := ⟨rfl, rfl, rfl, by decide +kernel, rfl, by decide +kernel, by decide +kernel⟩
def PagesOk (ds : List PyData) : Prop := ∀ d ∈ ds, PgOk d ∧ IfOk d
def spWb (K : PySem.W.Frag) : Sp := fun vs H Q _ => ∃ (fa wa : Addr) (ds : List PyData) (k : Nat) (ls : List Nat), vs = [.ref fa, .ref wa] ∧ FormsAt K H fa ds ∧ PagesOk ds ∧ WayAt H wa ds.length k ls ∧ ls.length ≤ 100000 ∧ ∀ H', Same H H' → Q (lineV (wayGoP ds ls fun _ => 0)) H'
structure FBl (K : PySem.W.Frag) (mg : Str → Option Value) (f : Addr) (d : FuncData) : Prop where
  u : Fun K "breaks_limit" "breaks_limit" sBl f d
  b : Binds K d ["form", "counts"] []
  g : mg "breaks_limit" = some (.ref f)
section
variable {P : Program} {w : World} {K : PySem.W.Frag} {mg : Str → Option Value} {base : Heap}
theorem ok_wb {f fB fC fM fA : Addr} {fd dB dC dM dA : FuncData} (F : Fun K "way_break" "way_break" sWb f fd) (B : FBl K mg fB dB) (C : FCn K mg fC dC) (M : FMo K mg fM dM) (AE : FAe K mg fA dA) (GM : GloM mg) (GP : GloPc K mg) (T : Glo mg) : FnOk P w K mg base CX0 3 f fd ["forms", "way"] (spWb K) := by
  have OB : FnOk P w K mg base CX0 2 fB dB ["form", "counts"] (spBl K) := ok_bl B.u C M AE GM GP T
  have OC : FnOk P w K mg base CX0 1 fC dC ["form"] (spCn K) := ok_cn C.u
  refine F.ok scWb (fun vs H Q E h => ?_) (fun cdv A outer s H vs Q E hr h => ?_)
  · obtain ⟨fa, wa, ds, k, ls, rfl, _⟩ := h
    rfl
  · obtain ⟨fa, wa, ds, kn, ls, rfl, hF, hP, hW, hlen, k⟩ := h
    have hu := hu_of hr
    have hr1 := hr.mono (show 1 ≤ 2 by decide)
    obtain ⟨hls, hll, _⟩ := hW
    refine ⟨_, (pss_cons (ps_set (i := 2) scWb.nd rfl (.inl rfl) pe_dnewK)
 (pss_cons (ps_for PassesOwn.never rfl (pi_tup (pv 1)) (pg_name (i := 3) scWb.nd rfl (.inl rfl)) (pss_cons (ps_set (i := 4) scWb.nd rfl (.inl rfl) (pe_ix ix_list (pv 0) (pe_op op_sub (pv 3) pe_int) (fun _ _ => rfl)))
 (pss_cons (ps_if (pt_val (pe_call OB hr rfl B.g B.u.kp B.b .nil pass0 (pa_cons (pv 4) (pa_cons (pv 2) pa_nil)))) (pss_one (ps_ret (pv 3))) pss_nil)
 (pss_one (ps_for PassesOwn.never rfl (pi_list (pe_call OC hr1 rfl C.g C.u.kp C.b .nil pass0 (pa_cons (pv 4) pa_nil))) (pg_name (i := 5) scWb.nd rfl (.inl rfl))
          (pss_one (ps_dput hu (pv 2) (pv 5) (pe_op op_add (pe_dget2 hu (pv 2) (pv 5) pe_int ⟨rfl, rfl, rfl, rfl⟩) pe_int) rfl)))))))
 (pss_one (ps_ret pe_non)))), ?_⟩
    intro cd hcd
    have s1 : Same H (upd H cd (.dK [])) := same_new hcd
    have c1 : upd H cd (.dK []) cd = some (.dK []) := upd_same
    show gName 2 _ _ (upd H cd (.dK [])) _
    generalize upd H cd (.dK []) = H1 at *
    have off : ∀ {G G' : Hp}, Same H G → (∀ a o, a ≠ cd → G a = some o → G' a = some o) → Same H G' := fun s q a o e => q a o (fun y => by rw [y, hcd] at e; cases e) (s a o e)
    refine ⟨_, rfl, wa, rfl, ⟨_, SqT.of (s1 _ _ hls)⟩, for_tup (K := K) (a := wa) (xs := wayV ls) (fun i σ G => ∃ (kvs : List (Key × V)) (c : Str → Nat) (v3 v4 v5 : Option V), σ = [some (.ref fa), some (.ref wa), some (.ref cd), v3, v4, v5] ∧ Same H G ∧ G cd = some (.dK kvs) ∧ CntAt kvs c ∧ kvs.length ≤ 2 * i ∧ wayGoP ds ls (fun _ => 0) = wayGoP ds (ls.drop i) c) ⟨[], fun _ => 0, none, none, none, rfl, s1, c1, fun _ => rfl, Nat.zero_le _, rfl⟩ (fun i σ G _ ⟨_, _, _, _, _, _, sG, _⟩ => SqT.of (sG _ _ hls)) ?_ ?_⟩
    rotate_left
    · rintro σ G ⟨kvs, c, v3, v4, v5, rfl, sG, _, _, _, em⟩
      have e0 : ls.drop (wayV ls).length = [] := by unfold wayV; rw [List.length_map, List.drop_length]
      rw [e0] at em
      rw [em] at k
      exact k _ sG
    rintro i x σ G hi ⟨kvs, c, v3, v4, v5, rfl, sG, hc, hcn, lk, em⟩
    obtain ⟨l, rfl, hli⟩ : ∃ l : Nat, x = .int ((l : Int) + 1) ∧ ls[i]? = some l := by
      unfold wayV at hi
      rw [List.getElem?_map] at hi
      cases e : ls[i]? with
      | none => rw [e] at hi; cases hi
      | some l => rw [e] at hi; cases hi; exact ⟨l, rfl, rfl⟩
    have hl := hll l (List.mem_of_getElem? hli)
    have hi2 := (List.getElem?_eq_some_iff.mp hli).1
    have hdr : ls.drop i = l :: ls.drop (i + 1) := by
      obtain ⟨h1, h2⟩ := List.getElem?_eq_some_iff.mp hli
      rw [← h2]; exact List.drop_eq_getElem_cons h1
    rw [hdr, wayP_cons] at em
    obtain ⟨xs, a, ys, hxs, lx, hv, ha, tda⟩ := (hF.same sG).head hl
    have hd : ds.getD l .none ∈ ds := by
      rw [List.getD_eq_getElem?_getD, List.getElem?_eq_getElem hl]; exact List.getElem_mem _
    obtain ⟨pg, pi⟩ := hP _ hd
    generalize ds.getD l .none = d at *
    refine ⟨_, rfl, _, rfl, _, _, rfl, rfl, fa, _, _, .ref a, rfl, rfl, SqL.of hxs, at_nat hv, ?_⟩
    refine ⟨_, rfl, _, rfl, .ref a, cd, d, kvs, c, rfl, tda, pg, pi, hc, hcn, fun G2 s2 => ⟨_, rfl, ?_⟩⟩
    have sG2 := sG.trans s2
    cases hb : brkL d c with
    | true =>
      rw [hb, if_pos rfl] at em
      rw [em] at k
      exact iteT ⟨_, rfl, k _ sG2⟩
    | false =>
      rw [hb, if_neg (by decide)] at em
      refine iteF ⟨_, rfl, .ref a, d, rfl, tda.keep (KeepT.of s2), pg, fun np G3 s3 np0 hnp => ?_⟩
      have lcn := cntN_len d
      have nnp : np ≠ cd := fun y => by rw [y, s2 _ _ hc] at np0; cases np0
      refine ⟨np, rfl, ⟨_, SqL.of hnp⟩, for_list (K := K) (a := np) (xs := (cntN d).map V.str) (fun j σ G4 => ∃ (kvs' : List (Key × V)) (v5 : Option V), σ = [some (.ref fa), some (.ref wa), some (.ref cd), some (.int ((l : Int) + 1)), some (.ref a), v5] ∧ (∀ b o, b ≠ cd → G3 b = some o → G4 b = some o) ∧ G4 cd = some (.dK kvs') ∧ CntAt kvs' (addN c ((cntN d).take j)) ∧ kvs'.length ≤ 2 * i + j) ⟨kvs, v5, rfl, fun _ _ _ e => e, s3 _ _ (s2 _ _ hc), hcn, by omega⟩ (fun j σ G4 _ ⟨_, _, _, q, _⟩ => SqL.of (q _ _ nnp hnp)) ?_ ?_⟩
      · rintro j x σ G4 hj ⟨kvs', v5', rfl, q4, hc4, hcn4, lk4⟩
        rw [List.getElem?_map] at hj
        obtain ⟨z, hz, rfl⟩ := Option.map_eq_some_iff.mp hj
        have hj2 := (List.getElem?_eq_some_iff.mp hz).1
        have hval : (valV kvs' (.inr z)).getD (.int 0) = .int (addN c ((cntN d).take j) z) := by
          rw [hcn4 z]
          split
          · rfl
          · rename_i h
            rw [show addN c ((cntN d).take j) z = 0 by omega]; rfl
        refine ⟨_, rfl, cd, rfl, .inl ⟨_, .inl hc4⟩, _, rfl, _, DGet.k (k := Sum.inr z) hc4, ?_⟩
        rw [hval]
        refine ⟨_, _, rfl, rfl, _, rfl, _, rfl, cd, _, rfl, DPut.k (k := (Sum.inr z : Key)) hc4 (by rw [sizeLine_eq]; omega), ?_⟩
        refine ⟨_, _, rfl, fun b o n e => ?_, upd_same, ?_, ?_⟩
        · rw [upd_ne n]; exact q4 b o n e
        · rw [take_snoc' hz]
          unfold addN
          rw [List.foldl_append]
          exact cnt_put hcn4 z
        · refine Nat.le_trans (put_len kvs' (.inr z) _) ?_
          omega
      · rintro σ G4 ⟨kvs', v5', rfl, q4, hc4, hcn4, lk4⟩
        rw [List.length_map] at lk4
        rw [List.length_map, List.take_length] at hcn4
        exact ⟨kvs', _, _, _, _, rfl, off (sG2.trans s3) q4, hc4, hcn4, by omega, em⟩
end
end IdL
namespace IdL
open PySem L2 TL
/-! ### the least line that is refused -/
theorem WaysL.get {H : Hp} {n : Nat} : ∀ {as : List Addr} {ss : List (List Nat)} (r : WaysL H n as ss) {i : Nat} {a : Addr}, as[i]? = some a → ∃ k ls, ss[i]? = some ls ∧ WayAt H a n k ls
  | _, _, .cons h t, 0, a, e => by cases e; exact ⟨_, _, rfl, h⟩
  | _, _, .cons h t, i + 1, a, e => t.get (i := i) e
theorem has_lt {jmp : List (Key × V)} {l j : Nat} (h : Has jmp ((l : Int) + 1)) (e : valV jmp (.inl ((l : Int) + 1)) = some (.int ((j : Int) + 1))) : l < j := by
  obtain ⟨j', e', lt⟩ := h
  rw [e] at e'
  have := V.int.inj (Option.some.inj e')
  omega
theorem StepTo.le {ds : List PyData} {jmp : List (Key × V)} (J : JOk ds jmp) {l m : Nat} (a : StepTo ds jmp l m) : l ≤ m := by
  induction a with
  | stop l h => exact Nat.le_refl _
  | end_ l m hl h r ih => omega
  | else_ l j m hl h hj r ih =>
    have := has_lt (J l hl (.inr h)) hj
    omega
theorem WayM.len {ds : List PyData} {jmp : List (Key × V)} (J : JOk ds jmp) {m : Nat} {ls : List Nat} (a : WayM ds jmp m ls) : ls = [] ∨ m + ls.length ≤ ds.length := by
  induction a with
  | over m h => exact .inl rfl
  | ends m hm h => exact .inr (by simp only [List.length_cons, List.length_nil]; omega)
  | ifA m q t hm h s r ih =>
    have := s.le J
    rcases ih with e | e
    · subst e; exact .inr (by simp only [List.length_cons, List.length_nil]; omega)
    · exact .inr (by rw [List.length_cons]; omega)
  | ifB m j q t hm h hj s r ih =>
    have := s.le J
    have := has_lt (J m hm (.inl h)) hj
    rcases ih with e | e
    · subst e; exact .inr (by simp only [List.length_cons, List.length_nil]; omega)
    · exact .inr (by rw [List.length_cons]; omega)
  | pl m q t hm h h2 s r ih =>
    have := s.le J
    rcases ih with e | e
    · subst e; exact .inr (by simp only [List.length_cons, List.length_nil]; omega)
    · exact .inr (by rw [List.length_cons]; omega)
theorem wayR_len {ds : List PyData} {jmp : List (Key × V)} (J : JOk ds jmp) {m : Nat} {ls : List Nat} (a : WayR ds jmp m ls) : ls.length ≤ ds.length := by
  obtain ⟨q, _, w⟩ := a
  rcases w.len J with e | e
  · rw [e]; exact Nat.zero_le _
  · omega
/-- rows with a word that is not for the kind -/
def stGo (kd : Str) : List Str → Nat → List Int
  | [], _ => []
  | r :: rs, i => if kd ∈ kindsOf r then stGo kd rs (i + 1) else ((i : Int) + 1) :: stGo kd rs (i + 1)
theorem st_snoc (kd : Str) (r : Str) : ∀ (rs : List Str) (i : Nat), stGo kd (rs ++ [r]) i = stGo kd rs i ++ (if kd ∈ kindsOf r then [] else [((i + rs.length : Nat) : Int) + 1])
  | [], i => by
    show (if kd ∈ kindsOf r then [] else [((i : Int) + 1)]) = _
    split <;> simp only [stGo, List.nil_append, List.length_nil, Nat.add_zero]
  | x :: rs, i => by
    show (if kd ∈ kindsOf x then stGo kd (rs ++ [r]) (i + 1) else ((i : Int) + 1) :: stGo kd (rs ++ [r]) (i + 1)) = (if kd ∈ kindsOf x then stGo kd rs (i + 1) else ((i : Int) + 1) :: stGo kd rs (i + 1)) ++ _
    rw [st_snoc kd r rs (i + 1), List.length_cons, show i + 1 + rs.length = i + (rs.length + 1) by omega]
    split <;> rfl
theorem st_len (kd : Str) : ∀ (rs : List Str) (i : Nat), (stGo kd rs i).length ≤ rs.length
  | [], i => Nat.le_refl _
  | x :: rs, i => by
    show (if kd ∈ kindsOf x then stGo kd rs (i + 1) else ((i : Int) + 1) :: stGo kd rs (i + 1)).length ≤ _
    have := st_len kd rs (i + 1)
    split
    · rw [List.length_cons]; omega
    · rw [List.length_cons, List.length_cons]; omega
theorem mem_st {kd : Str} : ∀ {rs : List Str} {i : Nat} {z : Int}, z ∈ stGo kd rs i ↔ ∃ n row, rs[n]? = some row ∧ kd ∉ kindsOf row ∧ z = ((i + n : Nat) : Int) + 1
  | [], i, z => by
    constructor
    · intro h; cases h
    · rintro ⟨n, row, h, _⟩; cases h
  | x :: rs, i, z => by
    have e : stGo kd (x :: rs) i = if kd ∈ kindsOf x then stGo kd rs (i + 1) else ((i : Int) + 1) :: stGo kd rs (i + 1) := rfl
    rw [e]
    constructor
    · intro h
      split at h
      · obtain ⟨n, row, h1, h2, h3⟩ := mem_st.mp h
        exact ⟨n + 1, row, h1, h2, by rw [h3, show i + 1 + n = i + (n + 1) by omega]⟩
      · rename_i hx
        rcases List.mem_cons.mp h with h | h
        · exact ⟨0, x, rfl, hx, h⟩
        · obtain ⟨n, row, h1, h2, h3⟩ := mem_st.mp h
          exact ⟨n + 1, row, h1, h2, by rw [h3, show i + 1 + n = i + (n + 1) by omega]⟩
    · rintro ⟨n, row, h1, h2, h3⟩
      cases n with
      | zero =>
        cases h1
        rw [if_neg h2, h3]
        exact List.mem_cons_self ..
      | succ n =>
        have : z ∈ stGo kd rs (i + 1) := mem_st.mpr ⟨n, row, h1, h2, by rw [h3, show i + 1 + n = i + (n + 1) by omega]⟩
        split
        · exact this
        · exact List.mem_cons_of_mem _ this
/-- a line at which something is refused -/
def RefdP (kd : Str) (rows : List Str) (ds : List PyData) (jmp : List (Key × V)) (n : Nat) : Prop := (∃ row, rows[n]? = some row ∧ kd ∉ kindsOf row) ∨ ∃ ls, WayR ds jmp 0 ls ∧ wayGoP ds ls (fun _ => 0) = some n
/-- the least of them -/
def LeastP (kd : Str) (rows : List Str) (ds : List PyData) (jmp : List (Key × V)) : Option Nat → Prop
  | none => ∀ n, ¬ RefdP kd rows ds jmp n
  | some n => RefdP kd rows ds jmp n ∧ ∀ m, RefdP kd rows ds jmp m → n ≤ m
def numsO (L : List (Option Nat)) : List Int := L.filterMap fun o => o.map fun n : Nat => (n : Int) + 1
theorem numsO_snoc (L : List (Option Nat)) (o : Option Nat) : numsO (L ++ [o]) = numsO L ++ (match o with | none => [] | some n => [(n : Int) + 1]) := by
  unfold numsO
  rw [List.filterMap_append]
  cases o <;> rfl
theorem mem_numsO {L : List (Option Nat)} {z : Int} : z ∈ numsO L ↔ ∃ n : Nat, some n ∈ L ∧ z = (n : Int) + 1 := by
  unfold numsO
  rw [List.mem_filterMap]
  constructor
  · rintro ⟨o, h1, h2⟩
    cases o with
    | none => cases h2
    | some n => cases h2; exact ⟨n, h1, rfl⟩
  · rintro ⟨n, h1, rfl⟩
    exact ⟨some n, h1, rfl⟩
theorem numsO_len (L : List (Option Nat)) : (numsO L).length ≤ L.length := List.length_filterMap_le ..
def wayL (ds : List PyData) (FL : List (List Nat)) : List (Option Nat) := FL.map fun ls => wayGoP ds ls fun _ => 0
theorem mem_all {kd : Str} {rows : List Str} {ds : List PyData} {jmp : List (Key × V)} {FL : List (List Nat)} (h : ∀ ls, ls ∈ FL ↔ WayR ds jmp 0 ls) (z : Int) : z ∈ stGo kd rows 0 ++ numsO (wayL ds FL) ↔ ∃ n : Nat, RefdP kd rows ds jmp n ∧ z = (n : Int) + 1 := by
  rw [List.mem_append]
  constructor
  · rintro (y | y)
    · obtain ⟨n, row, h1, h2, h3⟩ := mem_st.mp y
      rw [Nat.zero_add] at h3
      exact ⟨n, .inl ⟨row, h1, h2⟩, h3⟩
    · obtain ⟨n, h1, h2⟩ := mem_numsO.mp y
      obtain ⟨ls, h3, h4⟩ := List.mem_map.mp h1
      exact ⟨n, .inr ⟨ls, (h ls).mp h3, h4⟩, h2⟩
  · rintro ⟨n, ⟨row, h1, h2⟩ | ⟨ls, h1, h2⟩, rfl⟩
    · exact .inl (mem_st.mpr ⟨n, row, h1, h2, by rw [Nat.zero_add]⟩)
    · exact .inr (mem_numsO.mpr ⟨n, List.mem_map.mpr ⟨ls, (h ls).mpr h1, h2⟩, rfl⟩)
abbrev sLeast : Stmt := top 99
theorem scLeast : FnScope ["kind", "rows", "forms", "jumps", "found", "at", "row", "way", "line"] ["kind", "rows", "forms", "jumps"] (defScope sLeast) := ⟨rfl, rfl, rfl, by decide +kernel, rfl, by decide +kernel, by decide +kernel⟩
def spLeast (K : PySem.W.Frag) : Sp := fun vs H Q _ => ∃ (kd : Str) (ra fa ja : Addr) (rows : List Str) (ds : List PyData) (jmp : List (Key × V)), vs = [.str kd, .ref ra, .ref fa, .ref ja] ∧ SqL K H ra (rows.map V.str) ∧ (∀ z ∈ rows, z.length ≤ 1000000) ∧ rows.length ≤ 100000 ∧ FormsAt K H fa ds ∧ PagesOk ds ∧ H ja = some (.dK jmp) ∧ JOk ds jmp ∧ ds.length ≤ 100000 ∧ ifsFrom ds 0 ≤ 20 ∧ ∀ r H', LeastP kd rows ds jmp r → Same H H' → Q (lineV r) H'
structure FLk (K : PySem.W.Frag) (mg : Str → Option Value) (f : Addr) (d : FuncData) : Prop where
  u : Fun K "line_kinds" "line_kinds" sLk f d
  b : Binds K d ["row"] []
  g : mg "line_kinds" = some (.ref f)
structure FWb (K : PySem.W.Frag) (mg : Str → Option Value) (f : Addr) (d : FuncData) : Prop where
  u : Fun K "way_break" "way_break" sWb f d
  b : Binds K d ["forms", "way"] []
  g : mg "way_break" = some (.ref f)
structure FWays (K : PySem.W.Frag) (mg : Str → Option Value) (f : Addr) (d : FuncData) : Prop where
  u : Fun K "find_ways" "find_ways" sWays f d
  b : Binds K d ["forms", "jumps"] []
  g : mg "find_ways" = some (.ref f)
section
variable {P : Program} {w : World} {K : PySem.W.Frag} {mg : Str → Option Value} {base : Heap}
theorem ok_least {f fL fW fY : Addr} {fd dL dW dY : FuncData} (F : Fun K "least_refused" "least_refused" sLeast f fd) (L : FLk K mg fL dL) (W : FWb K mg fW dW) (Y : FWays K mg fY dY) (OL : FnOk P w K mg base CX0 1 fL dL ["row"] spLk) (OW : FnOk P w K mg base CX0 3 fW dW ["forms", "way"] (spWb K)) (OY : FnOk P w K mg base CX0 2 fY dY ["forms", "jumps"] (spWays K)) (T : Glo mg) (mn : mg "min" = none) : FnOk P w K mg base CX0 4 f fd ["kind", "rows", "forms", "jumps"] (spLeast K) := by
  refine F.ok scLeast (fun vs H Q E h => ?_) (fun cdv A outer s H vs Q E hr h => ?_)
  · obtain ⟨kd, ra, fa, ja, rows, ds, jmp, rfl, _⟩ := h
    rfl
  · obtain ⟨kd, ra, fa, ja, rows, ds, jmp, rfl, hra, hrl, hrf, hF, hok, hJ, J, few, hif, k⟩ := h
    have hr1 := hr.mono (show 1 ≤ 3 by decide)
    have hr2 := hr.mono (show 2 ≤ 3 by decide)
    refine ⟨_, (pss_cons (ps_setLc (i := 4) (own := [("at", 5), ("row", 6)]) (g := gTup K 2 (gCons (gName 5) (gCons (gName 6) gNil))) (by rfl) scLeast.nd rfl rfl (sw_true rfl rfl rfl (by decide +kernel)) (pi_enum (by rfl) T.enum (pa_cons (pv 1) pa_nil)) (blkOk_by (N := ["kind", "rows", "forms", "jumps", "found", "at", "row", "way", "line"]) (sc := defScope sLeast) (by decide +kernel))
          (fun _ _ _ _ _ => pg_tup rfl (pgs_cons (pg_name (i := 5) scLeast.nd rfl (.inl rfl)) (pgs_cons (pg_name (i := 6) scLeast.nd rfl (.inl rfl)) pgs_nil)))
          (fun _ _ _ _ _ => pts_one (pt_cmpR (r := rIn K true) op_notIn_seq (pv 0) (pe_call OL hr1 rfl L.g L.u.kp L.b .nil pass0 (pa_cons (pv 6) pa_nil)) (by rfl))) (fun _ _ _ _ _ => pe_op op_add (pv 5) pe_int))
 (pss_cons (ps_for PassesOwn.never rfl (pi_list (pe_call OY hr2 rfl Y.g Y.u.kp Y.b .nil pass0 (pa_cons (pv 2) (pa_cons (pv 3) pa_nil)))) (pg_name (i := 7) scLeast.nd rfl (.inl rfl)) (pss_cons (ps_set (i := 8) scLeast.nd rfl (.inl rfl) (pe_call OW hr rfl W.g W.u.kp W.b .nil pass0 (pa_cons (pv 2) (pa_cons (pv 7) pa_nil))))
 (pss_one (ps_if (pt_cmpR op_notN (pv 8) pe_non (nomark _)) (pss_one (ps_expr (pe_bm PySem.F.plainAttrs_list PySem.F.slot_list_append PySem.F.type_list_append mt_append (pv 4) (pa_cons (pv 8) pa_nil)))) pss_nil))))
 (pss_one (ps_ret (pe_ifExp (pt_truth (pv 4) (by intro _; rfl)) (pe_callB (cr_min rfl) (by rfl) mn (by decide +kernel) (pa_cons (pv 4) pa_nil)) pe_non))))), ?_⟩
    refine ⟨_, rfl, ra, _, rfl, hra, fun D hD => lc_it walk_enum (fun i G => Same H G ∧ G D = some (.lst ((stGo kd (rows.take i) 0).map V.int))) ⟨same_new hD, upd_same⟩ (fun i G _ ⟨sG, _⟩ => sG.seq hra) ?_ ?_⟩
    · rintro i x G G2 hi ⟨sG, hG⟩ ⟨T0, xi, yi, rfl, hT, rfl, e1, e2⟩
      have s4 : Same G _ := same_new (o := .tup [xi, yi]) hT
      have hT4 : upd G T0 (.tup [xi, yi]) T0 = some (.tup [xi, yi]) := upd_same
      generalize upd G T0 (.tup [xi, yi]) = G4 at *
      refine ⟨T0, _, rfl, SqT.of hT4, rfl, _, _, rfl, _, _, rfl, rfl, ?_⟩
      cases e1
      rw [List.length_map] at hi
      obtain ⟨row, hz⟩ : ∃ z, rows[i]? = some z := ⟨rows[i], List.getElem?_eq_getElem hi⟩
      have e2 : (rows.map V.str)[i]? = some yi := e2
      rw [List.getElem?_map, hz] at e2
      cases e2
      have rl := hrl row (List.mem_of_getElem? hz)
      refine ⟨rfl, _, rfl, _, rfl, row, rfl, rl, fun p G5 s5 hp => ?_⟩
      have lst := st_len kd (rows.take i) 0
      have lt : (rows.take i).length = i := by rw [List.length_take]; omega
      have e3 : stGo kd (rows.take (i + 1)) 0 = stGo kd (rows.take i) 0 ++ (if kd ∈ kindsOf row then [] else [((i : Nat) : Int) + 1]) := by
        rw [List.take_add_one, hz, show (some row).toList = [row] from rfl, st_snoc, lt, Nat.zero_add]
      refine ⟨p, _, rfl, .inl (SqL.of hp), rfl, flat_strs _, ?_⟩
      rw [in_strs]
      have s05 := s4.trans s5
      have hD5 := s05 _ _ hG
      rw [e3]
      by_cases h : kd ∈ kindsOf row
      · rw [if_pos h]
        refine ⟨_, rfl, ?_⟩
        refine iteNS h ⟨sG.trans s05, ?_⟩
        rw [List.append_nil]; exact hD5
      · rw [if_neg h]
        refine ⟨_, rfl, iteNN h ⟨_, rfl, _, _, rfl, rfl, _, hD5, (by rw [List.length_map, sizeLine_eq]; omega), fun c o e => ?_, ?_⟩⟩
        · rw [upd_ne (fun y => by rw [y, hD] at e; cases e)]; exact s05 _ _ (sG _ _ e)
        · rw [upd_same, List.map_append]; rfl
    rintro G ⟨sG, hG⟩
    rw [List.length_map, List.take_length] at hG
    have FG := hF.same sG
    have lst := st_len kd rows 0
    refine ⟨_, rfl, _, rfl, fa, ja, ds, jmp, rfl, FG, sG _ _ hJ, J, few, hif, fun fo ws H3 s3 hfo FL hws hcmp hl => ?_⟩
    have s03 := sG.trans s3
    have lFL := hws.len
    have hD3 := s3 _ _ hG
    have hmem := mem_all (kd := kd) (rows := rows) hcmp
    have nDf : D = fo → ws = [] ∧ stGo kd rows 0 = [] := fun y => by
      have h0 := hD3
      rw [y, hfo] at h0
      have h0 := HO.lst.inj (Option.some.inj h0)
      cases ws with
      | nil => exact ⟨rfl, List.map_eq_nil_iff.mp h0.symm⟩
      | cons a as =>
        cases hs : stGo kd rows 0 with
        | nil => rw [hs] at h0; cases h0
        | cons z zs => rw [hs] at h0; injection h0 with h1 h2; cases h1
    refine ⟨fo, rfl, ⟨_, SqL.of hfo⟩, for_list (K := K) (a := fo) (xs := ws.map V.ref) (fun i σ G4 => ∃ (v5 v6 v7 v8 : Option V), σ = [some (.str kd), some (.ref ra), some (.ref fa), some (.ref ja), some (.ref D), v5, v6, v7, v8] ∧ (∀ a o, a ≠ D → H3 a = some o → G4 a = some o) ∧ G4 D = some (.lst ((stGo kd rows 0 ++ numsO (wayL ds (FL.take i))).map V.int))) ⟨_, _, _, _, rfl, fun _ _ _ e => e, by rw [show FL.take 0 = [] from rfl, show wayL ds [] = [] from rfl, show numsO [] = [] from rfl, List.append_nil]; exact hD3⟩ (fun i σ G4 _ ⟨_, _, _, _, _, q, h4⟩ => SqL.of (by
      by_cases y : D = fo
      · obtain ⟨e1, e2⟩ := nDf y
        have e3 : FL = [] := List.length_eq_zero_iff.mp (by rw [← lFL, e1]; rfl)
        rw [e1, ← y, h4, e2, e3, List.take_nil]; rfl
      · exact q _ _ (Ne.symm y) hfo)) ?_ ?_⟩
    · rintro i x σ G4 hi ⟨v5, v6, v7, v8, rfl, q4, h4⟩
      have hi' : i < ws.length := by
        have := (List.getElem?_eq_some_iff.mp hi).1
        rwa [List.length_map] at this
      obtain ⟨wy, hwy⟩ : ∃ y, ws[i]? = some y := ⟨ws[i], List.getElem?_eq_getElem hi'⟩
      rw [List.getElem?_map, hwy] at hi
      cases hi
      obtain ⟨kk, ls, hls, hW⟩ := hws.get hwy
      have off : Same H G4 := fun a o e => q4 a o (fun y => by rw [y, hD] at e; cases e) (s03 a o e)
      have hW2 : WayAt G4 wy ds.length kk ls := ⟨q4 _ _ (fun y => by
        have := hW.at_
        rw [y] at this
        rw [hD3] at this; cases this) hW.at_, hW.low, hW.len⟩
      have hlen : ls.length ≤ 100000 := Nat.le_trans (wayR_len J ((hcmp ls).mp (List.mem_of_getElem? hls))) few
      refine ⟨_, rfl, _, rfl, fa, wy, ds, kk, ls, rfl, hF.same off, hok, hW2, hlen, fun G5 s5 => ?_⟩
      have e3 : numsO (wayL ds (FL.take (i + 1))) = numsO (wayL ds (FL.take i)) ++ (match wayGoP ds ls (fun _ => 0) with | none => [] | some n => [(n : Int) + 1]) := by
        rw [List.take_add_one, hls, show (some ls).toList = [ls] from rfl]
        unfold wayL
        rw [List.map_append]
        exact numsO_snoc _ _
      have ln := numsO_len (wayL ds (FL.take i))
      have lw : (wayL ds (FL.take i)).length ≤ i := by unfold wayL; rw [List.length_map, List.length_take]; exact Nat.min_le_left _ _
      have lst := st_len kd rows 0
      refine ⟨_, rfl, rfl, _, rfl, ?_⟩
      rw [e3]
      cases ho : wayGoP ds ls (fun _ => 0) with
      | none =>
        refine iteNS rfl ⟨_, _, _, _, rfl, fun a o n e => s5 _ _ (q4 a o n e), ?_⟩
        simp only [List.append_nil]
        exact s5 _ _ h4
      | some n =>
        refine iteNN (fun y => nomatch y) ⟨_, rfl, .inl ⟨rfl, _, SqL.of (s5 _ _ h4)⟩, _, rfl, D, _, _, rfl, rfl, s5 _ _ h4, (by rw [List.length_map, List.length_append, sizeLine_eq]; omega), ?_⟩
        refine ⟨_, _, _, _, rfl, fun a o nn e => ?_, ?_⟩
        · rw [upd_ne nn]; exact s5 _ _ (q4 a o nn e)
        · rw [upd_same, ← List.append_assoc, List.map_append (l₁ := stGo kd rows 0 ++ _)]; rfl
    · rintro σ G4 ⟨v5, v6, v7, v8, rfl, q4, h4⟩
      rw [List.length_map, lFL, List.take_length] at h4
      have off : Same H G4 := fun a o e => q4 a o (fun y => by rw [y, hD] at e; cases e) (s03 a o e)
      refine ⟨_, rfl, !((stGo kd rows 0 ++ numsO (wayL ds FL)).map V.int).isEmpty, .inl ⟨_, SqL.of h4, rfl⟩, ?_⟩
      generalize stGo kd rows 0 ++ numsO (wayL ds FL) = tot at *
      cases en : tot with
      | nil =>
        refine iteF (k none _ (fun n hr => ?_) off)
        have := (hmem _).mpr ⟨n, hr, rfl⟩
        rw [en] at this
        exact absurd this List.not_mem_nil
      | cons z zs =>
        refine iteT ⟨_, rfl, D, z :: zs, rfl, SqL.of (by rw [← en]; exact h4), by simp, fun m h1 h2 => ?_⟩
        rw [← en] at h1 h2
        obtain ⟨n, hn, rfl⟩ := (hmem _).mp h1
        refine k (some n) _ ⟨hn, fun m2 hm2 => ?_⟩ off
        have := h2 _ ((hmem _).mpr ⟨m2, hm2, rfl⟩)
        omega
end
end IdL
namespace IdL
open PySem L2 TL
/-! ### what a line of a page code is read to -/
inductive SdD : PyData → Prop
  | non : SdD .none
  | int (i : Int) : SdD (.int i)
  | str (x : Str) : SdD (.str x)
theorem term_sd (z : Str) (ns : List Str) : SdD (termD z ns) := by
  unfold termD
  split
  · exact .int _
  · split
    · exact .str _
    · exact .non
theorem part_four (ws ns : List Str) (phr : List (Str × Str)) : partD ws ns phr = .none ∨ ∃ (b : Bool) (o : Str) (l r : PyData), partD ws ns phr = .tuple [.bool b, .str o, l, r] ∧ SdD l ∧ SdD r := by
  cases e : phr.lookup (Txt.join " " (restOf ws)) with
  | some y => exact .inr ⟨_, _, _, _, partD_some e, .non, .non⟩
  | none =>
    by_cases h3 : (restOf ws).length = 3
    · obtain ⟨l, o, r, e3⟩ := three h3
      rw [partD_three e e3]
      split
      · exact .inr ⟨_, _, _, _, rfl, term_sd _ _, term_sd _ _⟩
      · exact .inl rfl
    · exact .inl (partD_len e h3)
def Four (d : PyData) : Prop := ∃ (b : Bool) (o : Str) (l r : PyData), d = .tuple [.bool b, .str o, l, r] ∧ SdD l ∧ SdD r
theorem test_cases (ws ns : List Str) (phr : List (Str × Str)) : testD ws ns phr = .none ∨ ∃ ds, testD ws ns phr = .tuple ds ∧ ∀ d ∈ ds, Four d := by
  unfold testD
  split
  · exact .inl rfl
  · split
    · exact .inl rfl
    · rename_i h
      refine .inr ⟨_, rfl, fun d hd => ?_⟩
      obtain ⟨g, hg, e⟩ := List.mem_map.mp hd
      rcases part_four g ns phr with q | q
      · exact absurd (List.any_eq_true.mpr ⟨d, hd, by rw [← e, q]; rfl⟩) h
      · rw [← e]; exact q
def TermOk (d : PyData) : Prop := ∃ (s : Int) (t : PyData), d = .tuple [.int s, t] ∧ SdD t
theorem codeM_ok {rd : List Str → PyData} {ml mi : Int} {x : Str} {rs : List Str} {ds : List PyData} {jmp : List (Key × V)} (h : codeM rd ml mi x = .ok rs ds jmp) :
    rs = linesOf x ∧ formsGo rd (linesOf x) 0 [] [] [] = .ok (ds, jmp) ∧ ((linesOf x).length : Int) ≤ ml ∧ ((ds.filter isIfD).length : Int) ≤ mi := by
  unfold codeM at h
  split at h
  · cases h
  · rename_i h1
    split at h
    · cases h
    · rename_i q hq
      split at h
      · cases h
      · rename_i h2
        cases h
        exact ⟨rfl, hq, by omega, by omega⟩
theorem forms_all {rd : List Str → PyData} {p : PyData → Prop} (hp : ∀ row, isNoneD (rowD rd row) = false → p (rowD rd row)) : ∀ (rs : List Str) (i : Nat) (fs : List PyData) (stk : List (Int × Int)) (jmp : List (Key × V)) {q : List PyData × List (Key × V)}, formsGo rd rs i fs stk jmp = .ok q → (∀ d ∈ fs, p d) → ∀ d ∈ q.1, p d
  | [], i, fs, stk, jmp, q, h, hf => by
    have h : (if stk.isEmpty = true then Except.ok (fs, jmp) else Except.error (i + 1)) = Except.ok q := h
    split at h
    · cases h; exact hf
    · cases h
  | row :: rs, i, fs, stk, jmp, q, h, hf => by
    rw [formsGo_cons] at h
    split at h
    · cases h
    · rename_i hn
      have hn := Bool.eq_false_iff.mpr hn
      have hf2 : ∀ d ∈ fs ++ [rowD rd row], p d := fun d hd => by
        rcases List.mem_append.mp hd with h | h
        · exact hf d h
        · rw [List.mem_singleton.mp h]; exact hp row hn
      split at h
      · exact forms_all hp rs _ _ _ _ h hf2
      · split at h
        · split at h
          · cases h
          · exact forms_all hp rs _ _ _ _ h hf2
        · exact forms_all hp rs _ _ _ _ h hf2
theorem mSum_ok (ns : List Str) : ∀ (ws : List Str) (i : Nat) (acc : List PyData) (met : List (Key × V)) (sg : Int) {l : List PyData}, mSum ns ws i acc met sg = some l → (∀ d ∈ acc, TermOk d) → (∀ d ∈ l, TermOk d) ∧ l.length ≤ acc.length + ws.length
  | [], i, acc, met, sg, l, h, ha => by cases h; exact ⟨ha, Nat.le_refl _⟩
  | w :: ws, i, acc, met, sg, l, h, ha => by
    rw [mSum_cons] at h
    split at h
    · split at h
      · cases h
      · obtain ⟨h1, h2⟩ := mSum_ok ns ws _ _ _ _ h ha
        exact ⟨h1, by rw [List.length_cons]; omega⟩
    · split at h
      · cases h
      · obtain ⟨h1, h2⟩ := mSum_ok ns ws _ _ _ _ h fun d hd => by
          rcases List.mem_append.mp hd with h | h
          · exact ha d h
          · rw [List.mem_singleton.mp h]; exact ⟨_, _, rfl, term_sd _ _⟩
        rw [List.length_append] at h2
        exact ⟨h1, by simp only [List.length_cons, List.length_nil] at h2 ⊢; omega⟩
theorem sum_ok (ws ns : List Str) : sumD ws ns = .none ∨ ∃ ts, sumD ws ns = .tuple ts ∧ (∀ d ∈ ts, TermOk d) ∧ ts.length ≤ 1000 := by
  unfold sumD
  split
  · exact .inl rfl
  · rename_i h
    cases e : mSum ns ws 0 [] [] 1 with
    | none => exact .inl rfl
    | some l =>
      obtain ⟨h1, h2⟩ := mSum_ok ns ws 0 [] [] 1 e fun _ h => absurd h List.not_mem_nil
      simp only [List.length_nil] at h2
      exact .inr ⟨l, rfl, h1, by omega⟩
structure FOk (d : PyData) : Prop where
  pg : PgOk d
  iff : IfOk d
  rd : ReadOk d
theorem form_ok (w : Str) (r : List PyData) (h1 : ¬ (w = "divide" ∨ w ∈ sNamed)) (h2 : ¬ w = "if") (h3 : w = sElse ∨ w = sEnd → r = []) : FOk (.tuple (.str w :: r)) :=
  ⟨⟨⟨w, r, rfl, fun h => absurd h h1⟩⟩, ⟨⟨w, r, rfl, fun h => absurd h h2⟩⟩, .inr ⟨w, r, rfl, h3⟩⟩
theorem form_tg (w t : Str) (r : List PyData) (h2 : ¬ w = "if") (h3 : ¬ (w = sElse ∨ w = sEnd)) : FOk (.tuple (.str w :: .str t :: r)) :=
  ⟨⟨⟨w, _, rfl, fun _ => ⟨t, r, rfl⟩⟩⟩, ⟨⟨w, _, rfl, fun h => absurd h h2⟩⟩, .inr ⟨w, _, rfl, fun h => absurd h h3⟩⟩
theorem lookup_mem {α : Type} {z : Str} {d : α} : ∀ {l : List (Str × α)}, l.lookup z = some d → ∃ p ∈ l, p.2 = d
  | [], h => by cases h
  | (x, v) :: l, h => by
    rw [List.lookup_cons] at h
    split at h
    · cases h; exact ⟨_, List.mem_cons_self .., rfl⟩
    · obtain ⟨p, hp, e⟩ := lookup_mem h
      exact ⟨p, List.mem_cons_of_mem _ hp, e⟩
theorem plain_all : ∀ p ∈ plainL, FOk p.2 := fun p hp => by
  unfold plainL at hp
  rcases List.mem_cons.mp hp with e | hp
  · rw [e]; exact form_ok _ _ (by decide +kernel) (by decide +kernel) (fun _ => rfl)
  rcases List.mem_cons.mp hp with e | hp
  · rw [e]; exact form_ok _ _ (by decide +kernel) (by decide +kernel) (fun _ => rfl)
  iterate 7
    rcases List.mem_cons.mp hp with e | hp
    · rw [e]; exact form_ok _ _ (by decide +kernel) (by decide +kernel) (fun h => absurd h (by decide +kernel))
  rw [List.mem_singleton.mp hp]; exact form_ok _ _ (by decide +kernel) (by decide +kernel) (fun h => absurd h (by decide +kernel))
theorem reg_ok (tg : Str) (ws : List Str) : regD tg ws = .none ∨ FOk (regD tg ws) := by
  unfold regD
  split
  · exact .inr (form_tg _ _ _ (by decide +kernel) (by decide +kernel))
  · split
    · split
      · exact .inl rfl
      · exact .inr (form_tg _ _ _ (by decide +kernel) (by decide +kernel))
    · split
      · exact .inl rfl
      · exact .inr (form_tg _ _ _ (by decide +kernel) (by decide +kernel))
theorem sett_ok (tg : Str) (ws : List Str) : settD tg ws = .none ∨ FOk (settD tg ws) := by
  unfold settD
  split
  · exact reg_ok tg ws
  · split
    · exact .inl rfl
    · split
      · exact .inl rfl
      · split
        · exact .inr (form_tg _ _ _ (by decide +kernel) (by decide +kernel))
        · exact .inr (form_tg _ _ _ (by decide +kernel) (by decide +kernel))
theorem rest_ok (x : Str) (r : List Str) : restD x r = .none ∨ FOk (restD x r) := by
  unfold restD
  split
  · rcases test_cases r namesP phrP with e | ⟨ds, e, h⟩
    · rw [e]; exact .inl rfl
    · have l : ds.length ≤ 1000 := by
        unfold testD at e
        split at e
        · cases e
        · split at e
          · cases e
          · cases e
            rw [List.length_map]; omega
      rw [e]
      refine .inr ⟨⟨⟨_, _, rfl, fun h => absurd h (by decide +kernel)⟩⟩, ⟨⟨_, _, rfl, fun _ => ⟨ds, rfl, fun p hp => ?_, l⟩⟩⟩, .inr ⟨_, _, rfl, fun h => absurd h (by decide +kernel)⟩⟩
      obtain ⟨b, o, l, r, e, _⟩ := h p hp
      exact ⟨b, o, l, r, e⟩
  · split
    · split
      · exact .inl rfl
      · exact .inr (form_ok _ _ (by decide +kernel) (by decide +kernel) (fun h => absurd h (by decide +kernel)))
    · split
      · exact sett_ok x _
      · exact .inl rfl
theorem page_ok : ∀ ws : List Str, pageD ws = .none ∨ FOk (pageD ws)
  | [] => .inl rfl
  | x :: r => by
    show (match plainL.lookup (Txt.join " " (x :: r)) with | some d => d | none => restD x r) = _ ∨ FOk (match plainL.lookup (Txt.join " " (x :: r)) with | some d => d | none => restD x r)
    cases e : plainL.lookup (Txt.join " " (x :: r)) with
    | some d =>
      obtain ⟨p, hp, rfl⟩ := lookup_mem e
      exact .inr (plain_all p hp)
    | none => exact rest_ok x r
theorem page_read (ws : List Str) : ReadOk (pageD ws) := by
  rcases page_ok ws with e | h
  · exact .inl e
  · exact h.rd
theorem row_page (row : Str) (hn : isNoneD (rowD pageD row) = false) : FOk (rowD pageD row) := by
  unfold rowD at hn ⊢
  split
  · rename_i h; rw [if_pos h] at hn; cases hn
  · rename_i h
    rw [if_neg h] at hn
    rcases page_ok (Txt.split row " ") with e | h
    · rw [e] at hn; cases hn
    · exact h
end IdL
namespace IdL
open PySem L2 TL
/-! ### PageCode's __init__ -/
def fldL : List Str := ["kind", "rules", "text", "rows", "forms", "jumps", "answers"]
abbrev sInit : Stmt := inClass (top 114) 0
abbrev stKind : Stmt := inClass (top 2) 0
abbrev stRef : Stmt := inClass (top 4) 0
theorem scInit : FnScope ["self", "kind", "rules", "text", "rows", "forms", "jumps", "line"] ["self", "kind", "rules", "text"] (defScope sInit) := ⟨rfl, rfl, rfl, by decide +kernel, rfl, by decide +kernel, by decide +kernel⟩
structure GloC (P : Program) (w : World) (K : PySem.W.Frag) (mg : Str → Option Value) (base : Heap) : Prop where
  kinds : ∃ p, mg "KINDS" = some (.ref p) ∧ KTup K p (kinds4.map V.str)
  lines : ∃ t, mg "MOST_LINES" = some (.int 40 t)
  ifs : ∃ t, mg "MOST_IFS" = some (.int 7 t)
  rdr : ∃ f, mg "read_page_line" = some (.ref f) ∧ Rdr P w K mg base 6 f pageD
structure OCls (K : PySem.W.Frag) (C : Addr) : Prop where
  cl : Cls K C
  no : ∀ f ∈ fldL, NoAttr K C f
structure FCode (K : PySem.W.Frag) (mg : Str → Option Value) (f : Addr) (d : FuncData) : Prop where
  u : Fun K "read_code" "read_code" sCode f d
  b : Binds K d ["text", "read_line", "most_lines", "most_ifs"] []
  g : mg "read_code" = some (.ref f)
structure FLeast (K : PySem.W.Frag) (mg : Str → Option Value) (f : Addr) (d : FuncData) : Prop where
  u : Fun K "least_refused" "least_refused" sLeast f d
  b : Binds K d ["kind", "rows", "forms", "jumps"] []
  g : mg "least_refused" = some (.ref f)
theorem putF_len (f : Str) (v : V) : ∀ fs : List (Str × V), (putF f v fs).length ≤ fs.length + 1
  | [] => Nat.le_refl _
  | (g, x) :: r => by
    show (if g = f then (g, v) :: r else (g, x) :: putF f v r).length ≤ _
    split
    · simp only [List.length_cons]; omega
    · have := putF_len f v r
      simp only [List.length_cons]; omega
def spInit (CC CL CT CR : Addr) : Sp := fun vs H Q E => ∃ (x dx : Addr) (kd z : Str) (rv : V), vs = [.ref x, .str kd, rv, .str z] ∧ kd ∈ kinds4 ∧ H x = some (.ins CC dx []) ∧ z.length ≤ 900000 ∧ Rows (linesOf z) ∧
  (∀ m, codeM pageD 40 7 z = .bad m → lineErr CL m H E) ∧ (codeM pageD 40 7 z = .many → ∀ d H', Same H H' → (∃ fs, H' d = some (.xd fs)) → E (.ref CT) (some d) H') ∧
  (∀ rs ds jmp, codeM pageD 40 7 z = .ok rs ds jmp → ∀ r, LeastP kd rs ds jmp r → (∀ n, r = some n → lineErr CR (n + 1) H E) ∧ (r = none → ∀ H', (∀ a o, a ≠ x → H a = some o → H' a = some o) → Q .non H'))
section
variable {P : Program} {w : World} {K : PySem.W.Frag} {mg : Str → Option Value} {base : Heap}
theorem ok_init {f fC fL CC CL CT CR CK iR iK : Addr} {fd dC dL : FuncData} (F : Fun K "__init__" "PageCode.__init__" sInit f fd) (C : FCode K mg fC dC) (L : FLeast K mg fL dL) (OC : FnOk P w K mg base (CX P w) 8 fC dC ["text", "read_line", "most_lines", "most_ifs"] (spCode P w K mg base 6 CL CT)) (OL : FnOk P w K mg base CX0 4 fL dL ["kind", "rows", "forms", "jumps"] (spLeast K))
    (BR : BErr P K mg "Refused" "Refused.__init__" stRef ["line"] CR iR) (BK : BErr P K mg "BadKind" "BadKind.__init__" stKind ["kind"] CK iK) (su : mg "super" = none) (T : Glo mg) (G : GloC P w K mg base) (O : OCls K CC) :
    FnOk P w K mg base (CX P w) 9 f fd ["self", "kind", "rules", "text"] (spInit CC CL CT CR) := by
  obtain ⟨kp, gK, tK⟩ := G.kinds
  obtain ⟨t1, gL⟩ := G.lines
  obtain ⟨t2, gI⟩ := G.ifs
  obtain ⟨fr, gR, D⟩ := G.rdr
  refine F.okX scInit (fun vs H Q E h => ?_) (fun cdv A outer s H vs Q E hr h => ?_)
  · obtain ⟨x, dx, kd, z, rv, rfl, _⟩ := h
    rfl
  · obtain ⟨x, dx, kd, z, rv, rfl, hk, hx, hz, ro, kbad, kmany, kok⟩ := h
    have hr3 := hr.mono (show 4 ≤ 8 by decide)
    refine ⟨_, (pss_cons (ps_if (pt_cmpR op_notIn_seq (pv 1) (pe_glob rfl gK (v := .ref kp) rfl) (by rfl)) (pss_one (ps_raise rfl (takes_of rfl rfl rfl rfl) (pmk_err BK.T BK.F (by decide) BK.g su hr (pa_cons (pv 1) pa_nil)))) pss_nil)
 (pss_cons (ps_asg (pe_call OC hr rfl C.g C.u.kp C.b .nil (passes_call (takes_of rfl rfl rfl rfl) fun _ _ _ _ z => z) (pa_cons (pv 3) (pa_cons (pe_glob rfl gR (v := .ref fr) rfl) (pa_cons (pe_glob rfl gL (v := .int 40) ⟨_, rfl⟩) (pa_cons (pe_glob rfl gI (v := .int 7) ⟨_, rfl⟩) pa_nil))))) (pg_tup rfl (pgs_cons (pg_name (i := 4) scInit.nd rfl (.inl rfl)) (pgs_cons (pg_name (i := 5) scInit.nd rfl (.inl rfl)) (pgs_cons (pg_name (i := 6) scInit.nd rfl (.inl rfl)) pgs_nil)))))
 (pss_cons (ps_set (i := 7) scInit.nd rfl (.inl rfl) (pe_call OL hr3 rfl L.g L.u.kp L.b .nil pass0 (pa_cons (pv 1) (pa_cons (pv 4) (pa_cons (pv 5) (pa_cons (pv 6) pa_nil))))))
 (pss_cons (ps_if (pt_cmpR op_notN (pv 7) pe_non (nomark _)) (pss_one (ps_raise rfl (takes_of rfl rfl rfl rfl) (pmk_err BR.T BR.F (by decide) BR.g su hr (pa_cons (pv 7) pa_nil)))) pss_nil)
 (pss_cons (ps_fld (pv 0) (pv 1) rfl)
 (pss_cons (ps_fld (pv 0) (pv 2) rfl)
 (pss_cons (ps_fld (pv 0) (pv 3) rfl)
 (pss_cons (ps_fld (pv 0) (pe_callTy call_tuple_of (by rfl) T.tuple (by decide +kernel) (pa_cons (pv 4) pa_nil)) rfl)
 (pss_cons (ps_fld (pv 0) (pe_callTy call_tuple_of (by rfl) T.tuple (by decide +kernel) (pa_cons (pv 5) pa_nil)) rfl)
 (pss_cons (ps_fld (pv 0) (pv 6) rfl)
 (pss_one (ps_fld (pv 0) pe_dnewK rfl)))))))))))), ?_⟩
    refine ⟨_, rfl, kp, _, rfl, .inr tK.sq, rfl, flat_strs kinds4, _, rfl, ?_⟩
    rw [in_strs]
    refine iteNS hk ?_
    refine ⟨_, rfl, z, fr, 40, 7, pageD, rfl, hz, ro, D, fun rs ds jmp ra fa ja t xs H2 e s2 hra hfa td has hja ht => ?_, kbad, kmany⟩
    have kok := kok rs ds jmp e
    obtain ⟨e1, eF, l30, l5⟩ := codeM_ok e
    subst e1
    have lds := forms_len _ _ _ _ _ eF
    have fok : ∀ d ∈ ds, FOk d := forms_all row_page _ _ _ _ _ eF (fun _ h => absurd h List.not_mem_nil)
    have pok : PagesOk ds := fun d hd => ⟨(fok d hd).pg, (fok d hd).iff⟩
    have J : JOk ds jmp := jumps_of eF
    simp only [List.length_nil] at lds
    refine ⟨t, _, rfl, SqT.of ht, rfl, _, _, rfl, _, _, rfl, _, _, rfl, rfl, ?_⟩
    refine ⟨_, rfl, _, rfl, _, rfl, _, rfl, kd, ra, fa, ja, linesOf z, ds, jmp, rfl, SqL.of hra, (fun y hy => Nat.le_trans (ro.len y hy) (by decide)), ro.few, ⟨⟨xs, hfa, td⟩, has⟩, pok, hja, J, by omega, (by show ((ds.drop 0).filter isIfD).length ≤ 20; rw [List.drop_zero]; omega), fun r H3 hv s3 => ?_⟩
    obtain ⟨kref, kend⟩ := kok r hv
    have s03 := s2.trans s3
    refine ⟨_, rfl, rfl, _, rfl, ?_⟩
    cases r with
    | none =>
      refine iteNS rfl ?_
      have hx3 := s03 _ _ hx
      refine ⟨_, rfl, _, rfl, x, CC, dx, [], rfl, hx3, O.cl, O.no "kind" (by decide +kernel), by decide, ?_⟩
      have l1 := putF_len "kind" (.str kd) []
      have u1 : upd H3 x (.ins CC dx (putF "kind" (.str kd) [])) x = some (.ins CC dx (putF "kind" (.str kd) [])) := upd_same
      have b1 : ∀ c o, c ≠ x → H3 c = some o → upd H3 x (.ins CC dx (putF "kind" (.str kd) [])) c = some o := fun c o n e => by rw [upd_ne n]; exact e
      generalize upd H3 x (.ins CC dx (putF "kind" (.str kd) [])) = G0 at *
      generalize putF "kind" (.str kd) [] = f0 at *
      simp only [List.length_nil] at l1
      refine ⟨_, rfl, _, rfl, x, CC, dx, f0, rfl, u1, O.cl, O.no "rules" (by decide +kernel), by omega, ?_⟩
      have l1r := putF_len "rules" rv f0
      have u1r : upd G0 x (.ins CC dx (putF "rules" rv f0)) x = some (.ins CC dx (putF "rules" rv f0)) := upd_same
      have b1r : ∀ c o, c ≠ x → G0 c = some o → upd G0 x (.ins CC dx (putF "rules" rv f0)) c = some o := fun c o n e => by rw [upd_ne n]; exact e
      generalize upd G0 x (.ins CC dx (putF "rules" rv f0)) = G1 at *
      generalize putF "rules" rv f0 = f1 at *
      refine ⟨_, rfl, _, rfl, x, CC, dx, f1, rfl, u1r, O.cl, O.no "text" (by decide +kernel), by omega, ?_⟩
      have l2 := putF_len "text" (.str z) f1
      have u2 : upd G1 x (.ins CC dx (putF "text" (.str z) f1)) x = some (.ins CC dx (putF "text" (.str z) f1)) := upd_same
      have b2 : ∀ c o, c ≠ x → G1 c = some o → upd G1 x (.ins CC dx (putF "text" (.str z) f1)) c = some o := fun c o n e => by rw [upd_ne n]; exact e
      generalize upd G1 x (.ins CC dx (putF "text" (.str z) f1)) = G2 at *
      generalize putF "text" (.str z) f1 = f2 at *
      have nra : ra ≠ x := fun y => by
        have := s2 _ _ hx
        rw [y, this] at hra; cases hra
      have nfa : fa ≠ x := fun y => by
        have := s2 _ _ hx
        rw [y, this] at hfa; cases hfa
      have hra2 := b2 _ _ nra (b1r _ _ nra (b1 _ _ nra (s3 _ _ hra)))
      refine ⟨_, rfl, ra, _, rfl, .inl ⟨SqL.of hra2, fun t3 ht3 => ?_⟩⟩
      have s4 : Same G2 _ := same_new (o := .tup ((linesOf z).map V.str)) ht3
      generalize upd G2 t3 (.tup ((linesOf z).map V.str)) = G3 at *
      refine ⟨_, rfl, x, CC, dx, f2, rfl, s4 _ _ u2, O.cl, O.no "rows" (by decide +kernel), by omega, ?_⟩
      have l3 := putF_len "rows" (.ref t3) f2
      have u4 : upd G3 x (.ins CC dx (putF "rows" (.ref t3) f2)) x = some (.ins CC dx (putF "rows" (.ref t3) f2)) := upd_same
      have b4 : ∀ c o, c ≠ x → G3 c = some o → upd G3 x (.ins CC dx (putF "rows" (.ref t3) f2)) c = some o := fun c o n e => by rw [upd_ne n]; exact e
      generalize upd G3 x (.ins CC dx (putF "rows" (.ref t3) f2)) = G4 at *
      generalize putF "rows" (.ref t3) f2 = f3 at *
      have hfa4 := b4 _ _ nfa (s4 _ _ (b2 _ _ nfa (b1r _ _ nfa (b1 _ _ nfa (s3 _ _ hfa)))))
      refine ⟨_, rfl, fa, _, rfl, .inl ⟨SqL.of hfa4, fun t5 ht5 => ?_⟩⟩
      have s5 : Same G4 _ := same_new (o := .tup xs) ht5
      generalize upd G4 t5 (.tup xs) = G5 at *
      refine ⟨_, rfl, x, CC, dx, f3, rfl, s5 _ _ u4, O.cl, O.no "forms" (by decide +kernel), by omega, ?_⟩
      have l5' := putF_len "forms" (.ref t5) f3
      have u6 : upd G5 x (.ins CC dx (putF "forms" (.ref t5) f3)) x = some (.ins CC dx (putF "forms" (.ref t5) f3)) := upd_same
      have b6 : ∀ c o, c ≠ x → G5 c = some o → upd G5 x (.ins CC dx (putF "forms" (.ref t5) f3)) c = some o := fun c o n e => by rw [upd_ne n]; exact e
      generalize upd G5 x (.ins CC dx (putF "forms" (.ref t5) f3)) = G6 at *
      generalize putF "forms" (.ref t5) f3 = f4 at *
      refine ⟨_, rfl, _, rfl, x, CC, dx, f4, rfl, u6, O.cl, O.no "jumps" (by decide +kernel), by omega, ?_⟩
      have l7' := putF_len "jumps" (.ref ja) f4
      have u7 : upd G6 x (.ins CC dx (putF "jumps" (.ref ja) f4)) x = some (.ins CC dx (putF "jumps" (.ref ja) f4)) := upd_same
      have b7 : ∀ c o, c ≠ x → G6 c = some o → upd G6 x (.ins CC dx (putF "jumps" (.ref ja) f4)) c = some o := fun c o n e => by rw [upd_ne n]; exact e
      generalize upd G6 x (.ins CC dx (putF "jumps" (.ref ja) f4)) = G7 at *
      generalize putF "jumps" (.ref ja) f4 = f5 at *
      intro d8 hd8
      have s8 : Same G7 _ := same_new (o := .dK []) hd8
      generalize upd G7 d8 (.dK []) = G8 at *
      refine ⟨_, rfl, x, CC, dx, f5, rfl, s8 _ _ u7, O.cl, O.no "answers" (by decide +kernel), by omega, ?_⟩
      exact kend rfl _ fun c o n e => by
        rw [upd_ne n]
        exact s8 _ _ (b7 c o n (b6 c o n (s5 _ _ (b4 c o n (s4 _ _ (b2 c o n (b1r c o n (b1 c o n (s03 _ _ e)))))))))
    | some n => exact iteNN (fun y => nomatch y) ⟨_, rfl, rfl, (fun z => by cases z), fun _ d hd => kref n rfl d _ (s03.trans (same_new hd)) upd_same⟩
end
end IdL
namespace IdL
open PySem L2 TL
/-! ### page rules, as the law makes them -/
abbrev sWhole : Stmt := top 11
abbrev sFrom : Stmt := top 12
abbrev sBetw : Stmt := top 13
abbrev sPR : Stmt := inClass (top 17) 0
theorem scWhole : FnScope ["value"] ["value"] (defScope sWhole) := ⟨rfl, rfl, rfl, by decide +kernel, rfl, by decide +kernel, by decide +kernel⟩
theorem scFrom : FnScope ["value", "least"] ["value", "least"] (defScope sFrom) := ⟨rfl, rfl, rfl, by decide +kernel, rfl, by decide +kernel, by decide +kernel⟩
theorem scBetw : FnScope ["value", "least", "most"] ["value", "least", "most"] (defScope sBetw) := ⟨rfl, rfl, rfl, by decide +kernel, rfl, by decide +kernel, by decide +kernel⟩
theorem scPR : FnScope ["self", "head", "slot", "unit", "most"] ["self", "head", "slot", "unit", "most"] (defScope sPR) := ⟨rfl, rfl, rfl, by decide +kernel, rfl, by decide +kernel, by decide +kernel⟩
def spWhole : Sp := fun vs H Q _ => ∃ i : Int, vs = [.int i] ∧ Q (.bl true) H
def spFrom : Sp := fun vs H Q _ => ∃ i l : Int, vs = [.int i, .int l] ∧ Q (.bl (decide (l ≤ i))) H
def spBetw : Sp := fun vs H Q _ => ∃ i l m : Int, vs = [.int i, .int l, .int m] ∧ Q (.bl (decide (l ≤ i) && decide (i ≤ m))) H
structure FWhole (K : PySem.W.Frag) (mg : Str → Option Value) (f : Addr) (d : FuncData) : Prop where
  u : Fun K "is_whole" "is_whole" sWhole f d
  b : Binds K d ["value"] []
  g : mg "is_whole" = some (.ref f)
structure FFrom (K : PySem.W.Frag) (mg : Str → Option Value) (f : Addr) (d : FuncData) : Prop where
  u : Fun K "is_from" "is_from" sFrom f d
  b : Binds K d ["value", "least"] []
  g : mg "is_from" = some (.ref f)
structure FBetw (K : PySem.W.Frag) (mg : Str → Option Value) (f : Addr) (d : FuncData) : Prop where
  u : Fun K "is_between" "is_between" sBetw f d
  b : Binds K d ["value", "least", "most"] []
  g : mg "is_between" = some (.ref f)
def fldR : List Str := ["head", "slot", "unit", "most"]
structure ORul (K : PySem.W.Frag) (C : Addr) : Prop where
  cl : Cls K C
  no : ∀ f ∈ fldR, NoAttr K C f
def spPR (CC : Addr) : Sp := fun vs H Q _ => ∃ (x dx : Addr), vs = [.ref x, .int 8, .int 4, .int 1, .non] ∧ H x = some (.ins CC dx []) ∧ ∀ H', (∀ a o, a ≠ x → H a = some o → H' a = some o) → Q .non H'
section
variable {P : Program} {w : World} {K : PySem.W.Frag} {mg : Str → Option Value} {base : Heap}
theorem ok_whole {f : Addr} {fd : FuncData} (F : Fun K "is_whole" "is_whole" sWhole f fd) (isi : mg "isinstance" = none) (mi : mg "int" = none) (mb : mg "bool" = none) : FnOk P w K mg base CX0 1 f fd ["value"] spWhole := by
  refine F.ok scWhole (fun vs H Q E h => ?_) (fun cdv A outer s H vs Q E hr h => ?_)
  · obtain ⟨i, rfl, _⟩ := h
    rfl
  · obtain ⟨i, rfl, k⟩ := h
    refine ⟨_, pss_one (ps_ret (pe_and (pe_callB call_isi (by rfl) isi (by decide +kernel) (pa_cons (pv 0) (pa_cons (pe_bltn (v := .ty "int") rfl mi (by decide +kernel) rfl) pa_nil))) (pe_one (pe_not (pe_callB call_isi (by rfl) isi (by decide +kernel) (pa_cons (pv 0) (pa_cons (pe_bltn (v := .ty "bool") rfl mb (by decide +kernel) rfl) pa_nil))))))), ?_⟩
    refine ⟨_, rfl, .int i, .ty "int", .type "int", .type "int", true, rfl, .ty _, .base (.int i), kit_ty (by decide +kernel), _, rfl, ?_⟩
    refine iteT ⟨_, rfl, .int i, .ty "bool", .type "int", .type "bool", false, rfl, .ty _, .base (.int i), kit_ty (by decide +kernel), _, rfl, k⟩
theorem ok_from {f fW : Addr} {fd dW : FuncData} (F : Fun K "is_from" "is_from" sFrom f fd) (W : FWhole K mg fW dW) (OW : FnOk P w K mg base CX0 1 fW dW ["value"] spWhole) : FnOk P w K mg base CX0 2 f fd ["value", "least"] spFrom := by
  refine F.ok scFrom (fun vs H Q E h => ?_) (fun cdv A outer s H vs Q E hr h => ?_)
  · obtain ⟨i, l, rfl, _⟩ := h
    rfl
  · obtain ⟨i, l, rfl, k⟩ := h
    refine ⟨_, pss_one (ps_ret (pe_and (pe_call OW hr rfl W.g W.u.kp W.b .nil pass0 (pa_cons (pv 0) pa_nil)) (pe_one (pe_cmpR op_ge (pv 0) (pv 1) (nomark _))))), ?_⟩
    exact ⟨_, rfl, i, rfl, _, rfl, iteT ⟨_, rfl, _, rfl, _, _, rfl, rfl, k⟩⟩
theorem ok_betw {f fW : Addr} {fd dW : FuncData} (F : Fun K "is_between" "is_between" sBetw f fd) (W : FWhole K mg fW dW) (OW : FnOk P w K mg base CX0 1 fW dW ["value"] spWhole) : FnOk P w K mg base CX0 2 f fd ["value", "least", "most"] spBetw := by
  refine F.ok scBetw (fun vs H Q E h => ?_) (fun cdv A outer s H vs Q E hr h => ?_)
  · obtain ⟨i, l, m, rfl, _⟩ := h
    rfl
  · obtain ⟨i, l, m, rfl, k⟩ := h
    refine ⟨_, pss_one (ps_ret (pe_and (pe_call OW hr rfl W.g W.u.kp W.b .nil pass0 (pa_cons (pv 0) pa_nil)) (pe_one (pe_chain op_le op_le (pv 1) (pv 0) (pv 2))))), ?_⟩
    refine ⟨_, rfl, i, rfl, _, rfl, iteT ⟨_, rfl, _, rfl, _, _, rfl, rfl, _, rfl, ?_⟩⟩
    by_cases h : l ≤ i
    · rw [decide_eq_true h, Bool.true_and] at k
      exact iteY h ⟨_, rfl, _, _, rfl, rfl, k⟩
    · rw [decide_eq_false h, Bool.false_and] at k
      exact iteN h k
theorem ok_pr {f fF fB CC : Addr} {fd dF dB : FuncData} (F : FunD K "__init__" "PageRules.__init__" (defArgs sPR) (defBody sPR) (defScope sPR) [.non] [] f fd) (FF : FFrom K mg fF dF) (FB : FBetw K mg fB dB) (OF : FnOk P w K mg base CX0 2 fF dF ["value", "least"] spFrom) (OB : FnOk P w K mg base CX0 2 fB dB ["value", "least", "most"] spBetw) (O : ORul K CC) {CR iR : Addr} (BR : BErr P K mg "BadRule" "BadRule.__init__" (inClass (top 5) 0) ["what"] CR iR) (su : mg "super" = none) :
    FnOk P w K mg base (CX P w) 3 f fd ["self", "head", "slot", "unit", "most"] (spPR CC) := by
  refine F.ok scPR (fun vs H Q E h => ?_) (fun cdv A outer s H vs Q E hr h => ?_)
  · obtain ⟨x, dx, rfl, _⟩ := h
    rfl
  · obtain ⟨x, dx, rfl, hx, k⟩ := h
    refine ⟨_, (pss_cons (ps_if (pt_not (pt_val (pe_call OF hr rfl FF.g FF.u.kp FF.b .nil pass0 (pa_cons (pv 1) (pa_cons pe_int pa_nil))))) (pss_one (ps_raise rfl (takes_of rfl rfl rfl rfl) (pmk_err BR.T BR.F (by decide) BR.g su hr (pa_cons pe_str pa_nil)))) pss_nil)
 (pss_cons (ps_if (pt_not (pt_val (pe_call OB hr rfl FB.g FB.u.kp FB.b .nil pass0 (pa_cons (pv 2) (pa_cons pe_int (pa_cons pe_int pa_nil)))))) (pss_one (ps_raise rfl (takes_of rfl rfl rfl rfl) (pmk_err BR.T BR.F (by decide) BR.g su hr (pa_cons pe_str pa_nil)))) pss_nil)
 (pss_cons (ps_if (pt_not (pt_val (pe_call OB hr rfl FB.g FB.u.kp FB.b .nil pass0 (pa_cons (pv 3) (pa_cons pe_int (pa_cons pe_int pa_nil)))))) (pss_one (ps_raise rfl (takes_of rfl rfl rfl rfl) (pmk_err BR.T BR.F (by decide) BR.g su hr (pa_cons pe_str pa_nil)))) pss_nil)
 (pss_cons (ps_if (PW.pt (pw_and (pt_cmpR op_notN (pv 4) pe_non (nomark _)) (pw_and1 (pt_not (pt_val (pe_call OF hr rfl FF.g FF.u.kp FF.b .nil pass0 (pa_cons (pv 4) (pa_cons pe_int pa_nil)))))))) (pss_one (ps_raise rfl (takes_of rfl rfl rfl rfl) (pmk_err BR.T BR.F (by decide) BR.g su hr (pa_cons pe_str pa_nil)))) pss_nil)
 (pss_cons (ps_fld (pv 0) (pv 1) rfl)
 (pss_cons (ps_fld (pv 0) (pv 2) rfl)
 (pss_cons (ps_fld (pv 0) (pv 3) rfl)
 (pss_one (ps_fld (pv 0) (pv 4) rfl))))))))), ?_⟩
    refine ⟨_, rfl, 8, 0, rfl, _, rfl, iteF ?_⟩
    refine ⟨_, rfl, 4, 1, 64, rfl, _, rfl, iteF ?_⟩
    refine ⟨_, rfl, 1, 1, 16, rfl, _, rfl, iteF ?_⟩
    refine ⟨_, rfl, rfl, _, rfl, iteNS rfl (iteF ?_)⟩
    have b0 : ∀ c o, c ≠ x → H c = some o → H c = some o := fun _ _ _ e => e
    have l0 : ([] : List (Str × V)).length ≤ 0 := Nat.le_refl _
    refine ⟨_, rfl, _, rfl, x, CC, dx, [], rfl, hx, O.cl, O.no "head" (by decide +kernel), by decide, ?_⟩
    have l1 := putF_len "head" (.int 8) []
    have u1 : upd H x (.ins CC dx (putF "head" (.int 8) [])) x = some (.ins CC dx (putF "head" (.int 8) [])) := upd_same
    have c1 : ∀ c o, c ≠ x → H c = some o → upd H x (.ins CC dx (putF "head" (.int 8) [])) c = some o := fun c o n e => by rw [upd_ne n]; exact e
    generalize upd H x (.ins CC dx (putF "head" (.int 8) [])) = G1 at *
    generalize putF "head" (.int 8) [] = f1 at *
    refine ⟨_, rfl, _, rfl, x, CC, dx, f1, rfl, u1, O.cl, O.no "slot" (by decide +kernel), by omega, ?_⟩
    have l2 := putF_len "slot" (.int 4) f1
    have u2 : upd G1 x (.ins CC dx (putF "slot" (.int 4) f1)) x = some (.ins CC dx (putF "slot" (.int 4) f1)) := upd_same
    have c2 : ∀ c o, c ≠ x → G1 c = some o → upd G1 x (.ins CC dx (putF "slot" (.int 4) f1)) c = some o := fun c o n e => by rw [upd_ne n]; exact e
    generalize upd G1 x (.ins CC dx (putF "slot" (.int 4) f1)) = G2 at *
    generalize putF "slot" (.int 4) f1 = f2 at *
    refine ⟨_, rfl, _, rfl, x, CC, dx, f2, rfl, u2, O.cl, O.no "unit" (by decide +kernel), by omega, ?_⟩
    have l3 := putF_len "unit" (.int 1) f2
    have u3 : upd G2 x (.ins CC dx (putF "unit" (.int 1) f2)) x = some (.ins CC dx (putF "unit" (.int 1) f2)) := upd_same
    have c3 : ∀ c o, c ≠ x → G2 c = some o → upd G2 x (.ins CC dx (putF "unit" (.int 1) f2)) c = some o := fun c o n e => by rw [upd_ne n]; exact e
    generalize upd G2 x (.ins CC dx (putF "unit" (.int 1) f2)) = G3 at *
    generalize putF "unit" (.int 1) f2 = f3 at *
    refine ⟨_, rfl, _, rfl, x, CC, dx, f3, rfl, u3, O.cl, O.no "most" (by decide +kernel), by omega, ?_⟩
    exact k _ fun c o n e => by
      rw [upd_ne n]
      exact c3 c o n (c2 c o n (c1 c o n e))
end
end IdL
namespace IdL
open PySem L2 TL
/-! ### pages: the mathematics -/
/-- the room of a length -/
def roomI (un n : Int) : Int := -(-n / un) * un
theorem room_ge {un n : Int} (hu : 1 ≤ un) : n ≤ roomI un n := by
  unfold roomI
  have h1 := Int.mul_ediv_add_emod (-n) un
  have h2 := Int.emod_nonneg (-n) (show un ≠ 0 by omega)
  have h3 : -(-n / un) * un = -(un * (-n / un)) := by rw [Int.neg_mul, Int.mul_comm]
  omega
theorem room_alt {un n : Int} (hu : 1 ≤ un) : (n + un - 1) / un * un = roomI un n := by
  unfold roomI
  have : (n + un - 1) / un = -(-n / un) := by
    have a1 := Int.mul_ediv_add_emod (-n) un
    have a2 := Int.emod_nonneg (-n) (show un ≠ 0 by omega)
    have a3 := Int.emod_lt_of_pos (-n) (show 0 < un by omega)
    have b1 : (n + un - 1) = (un - 1 - (-n) % un) + un * (-(-n / un)) := by
      rw [Int.mul_neg]; omega
    rw [b1, Int.add_mul_ediv_left _ _ (show un ≠ 0 by omega), Int.ediv_eq_zero_of_lt (by omega) (by omega), Int.zero_add]
  rw [this]
abbrev Rec := Int × Int
/-- where a record ends, by its room -/
def endR (un : Int) (p : Rec) : Int := p.1 + roomI un p.2
/-- one behind the other from a byte on; where the last one ends -/
def chainB (un : Int) : Int → List Rec → Option Int
  | f, [] => some f
  | f, p :: r => if p.1 < f ∨ p.1 % un ≠ 0 then none else chainB un (endR un p) r
def laidB (un low s : Int) (ys : List Rec) : Bool := match chainB un low ys with
  | some f => decide (f ≤ s)
  | none => false
/-- what the law asks: each in its place, none over another -/
def FitR (un low s : Int) (p : Rec) : Prop := p.1 % un = 0 ∧ low ≤ p.1 ∧ endR un p ≤ s
def Apart (un : Int) (p q : Rec) : Prop := endR un p ≤ q.1 ∨ endR un q ≤ p.1
def Disj (un low s : Int) (ps : List Rec) : Prop := (∀ p ∈ ps, FitR un low s p) ∧ ps.Pairwise (Apart un)
theorem Apart.symm {un : Int} {p q : Rec} (h : Apart un p q) : Apart un q p := h.elim .inr .inl
theorem Disj.perm {un low s : Int} {ps qs : List Rec} (e : qs.Perm ps) : Disj un low s qs ↔ Disj un low s ps := by
  unfold Disj
  rw [e.pairwise_iff (fun h => h.symm)]
  exact ⟨fun h => ⟨fun p hp => h.1 p (e.mem_iff.mpr hp), h.2⟩, fun h => ⟨fun p hp => h.1 p (e.mem_iff.mp hp), h.2⟩⟩
/-- sorted by their places -/
theorem laid_disj {un s : Int} (hu : 1 ≤ un) : ∀ {ys : List Rec} {low : Int}, (∀ p ∈ ys, 1 ≤ p.2) → ys.Pairwise (fun p q => p.1 ≤ q.1) → low ≤ s → (laidB un low s ys = true ↔ Disj un low s ys)
  | [], low, _, _, hl => by
    constructor
    · exact fun _ => ⟨(fun _ h => absurd h List.not_mem_nil), .nil⟩
    · exact fun _ => decide_eq_true hl
  | p :: r, low, h1, hs, hl => by
    have r1 := room_ge (n := p.2) hu
    have p1 := h1 p (List.mem_cons_self ..)
    have hp : p.1 < endR un p := by unfold endR; omega
    obtain ⟨hs1, hs2⟩ := List.pairwise_cons.mp hs
    by_cases hc : p.1 < low ∨ p.1 % un ≠ 0
    · have e : laidB un low s (p :: r) = false := by
        unfold laidB
        rw [show chainB un low (p :: r) = none from if_pos hc]
      rw [e]
      constructor
      · exact fun h => nomatch h
      · intro h
        obtain ⟨a, b, c⟩ := h.1 p (List.mem_cons_self ..)
        omega
    · have e : laidB un low s (p :: r) = laidB un (endR un p) s r := by
        unfold laidB
        rw [show chainB un low (p :: r) = chainB un (endR un p) r from if_neg hc]
      rw [e]
      by_cases hes : endR un p ≤ s
      · rw [laid_disj hu (fun q hq => h1 q (List.mem_cons_of_mem _ hq)) hs2 hes]
        constructor
        · intro h
          refine ⟨fun q hq => ?_, List.pairwise_cons.mpr ⟨fun q hq => .inl (h.1 q hq).2.1, h.2⟩⟩
          rcases List.mem_cons.mp hq with y | y
          · rw [y]; exact ⟨by omega, by omega, hes⟩
          · have := h.1 q y
            exact ⟨this.1, by have := this.2.1; omega, this.2.2⟩
        · intro h
          obtain ⟨k1, k2⟩ := List.pairwise_cons.mp h.2
          refine ⟨fun q hq => ?_, k2⟩
          have q0 := h.1 q (List.mem_cons_of_mem _ hq)
          refine ⟨q0.1, ?_, q0.2.2⟩
          have q1 := h1 q (List.mem_cons_of_mem _ hq)
          have q2 := room_ge (n := q.2) hu
          have q3 := hs1 q hq
          rcases k1 q hq with y | y
          · exact y
          · unfold endR at y; omega
      · have hno : ¬ Disj un low s (p :: r) := fun h => hes (h.1 p (List.mem_cons_self ..)).2.2
        refine ⟨fun h => ?_, fun h => absurd h hno⟩
        exfalso
        -- the last one ends behind the page
        have : ∀ (ys : List Rec) (f : Int), s < f → (∀ q ∈ ys, 1 ≤ q.2) → laidB un f s ys = false := by
          intro ys
          induction ys with
          | nil => intro f hf _; exact decide_eq_false (by show ¬ f ≤ s; omega)
          | cons q t ih =>
            intro f hf hq
            unfold laidB
            by_cases hq0 : q.1 < f ∨ q.1 % un ≠ 0
            · rw [show chainB un f (q :: t) = none from if_pos hq0]
            · rw [show chainB un f (q :: t) = chainB un (endR un q) t from if_neg hq0]
              have q1 := hq q (List.mem_cons_self ..)
              have q2 := room_ge (n := q.2) hu
              exact ih (endR un q) (by unfold endR; omega) fun x hx => hq x (List.mem_cons_of_mem _ hx)
        rw [this r (endR un p) (by omega) fun q hq => h1 q (List.mem_cons_of_mem _ hq)] at h
        cases h
/-- the records of a row -/
def heldR (rs : List (Option Rec)) : List Rec := rs.filterMap id
/-- page rules, as numbers -/
structure Ru where
  hd : Int
  sl : Int
  un : Int
  ms : Option Int
structure RuOk (r : Ru) : Prop where
  hd0 : 0 ≤ r.hd
  hd1 : r.hd ≤ 1000000
  sl0 : 1 ≤ r.sl
  sl1 : r.sl ≤ 64
  un0 : 1 ≤ r.un
  un1 : r.un ≤ 16
  ms : ∀ m, r.ms = some m → 1 ≤ m
def edgeR (r : Ru) (n : Nat) : Int := r.hd + r.sl * (n : Int)
def inUse (r : Ru) (s : Int) : Bool := !(decide (s % r.un ≠ 0) || decide (s < r.hd)) && (match r.ms with | none => true | some m => decide (s ≤ m + 1))
/-- a page is right, whatever its holes are -/
def RightP (r : Ru) (s low : Int) (rs : List (Option Rec)) : Prop := edgeR r rs.length ≤ low ∧ low ≤ s ∧ low % r.un = 0 ∧ (∀ m, r.ms = some m → low ≤ m) ∧ Disj r.un low s (heldR rs)
/-- a told page: size from 1 on, all lengths from 1 on -/
def ToldP (s : Int) (rs : List (Option Rec)) : Prop := 1 ≤ s ∧ ∀ p ∈ heldR rs, 1 ≤ p.2
def RightPage (r : Ru) (s low : Int) (rs : List (Option Rec)) : Prop := ToldP s rs ∧ inUse r s = true ∧ RightP r s low rs
end IdL
namespace PySem
open Sem (wp)
/-! ### enumerate(tuple) -/
theorem meets_enum_oneB {v : Value} {o : Obj} {H : Heap → Prop} (B : Begins v o H) :
    Meets (Builtin.«enumerate.__new__» ⟨[.type "enumerate", v], []⟩) (fun _ R s => H s.heap ∧
      R (.ok (.ret (.ref (s.heap.push o).objs.size))) { s with heap := (s.heap.push o).push { cls := .type "enumerate", data := .fields #[.none, .bool false, .ref s.heap.objs.size, rawInt 0, .none, .none] } }) :=
  .of_wp fun prog w A R s h => by
    obtain ⟨hp, g, d, tk, os⟩ := s; obtain ⟨h1, h⟩ := h
    have hsub := sub_enumerate
    have q1 : ∀ {A' : Around} {E : Value → Shared → Prop} {Q : Value → Shared → Prop}, Q (.ref hp.objs.size) ⟨hp.push o, g, d, tk, os⟩ → wpAny (model prog w) A' (pyIter v) Q E ⟨hp, g, d, tk, os⟩ :=
      fun q => B.iter prog w _ _ ⟨hp, g, d, tk, os⟩ _ h1 q
    wp_walk using q1
    refine wpAny_stack_any fun st => wpAny_pure ?_
    split
    · rename_i c _ _ _ _ _
      cases (c == Value.type "enumerate")
      · wp_walk using q1
        exact ⟨_, rfl, h⟩
      · wp_walk using q1
        exact ⟨_, rfl, h⟩
    · wp_walk using q1
      exact ⟨_, rfl, h⟩
section
variable {prog : Program} {w : World} {A : Around} {E : Value → Shared → Prop} {s : Shared}
theorem call_enum_tuple {l : Addr} {items : Array Value} {Q : Value → Shared → Prop} (hL : s.heap.IsTuple l items)
    (h : ∀ h', IsEnum h' (s.heap.objs.size + 1) s.heap.objs.size 0 .none → h'.IsTupleIter s.heap.objs.size l 0 → h'.objs.size = s.heap.objs.size + 2 →
      (∀ b o, s.heap.get? b = some o → h'.get? b = some o) → Q (.ref (s.heap.objs.size + 1)) { s with heap := h' }) :
    wpAny (model prog w) A (call (.type "enumerate") [.ref l]) Q E s := by
  refine callType_new F.called_enumerate (by decide) (F.typeCall_enumerate_1 _) (F.newCall_enumerate_1 _) (fun obj => F.args_object_init_2 obj _) F.entry_enumerate_new
    (meets_enum_oneB (begins_tuple l items)) ⟨hL, ?_⟩
  have hz : (s.heap.push { cls := .type "tuple_iterator", data := .fields #[.ref l, .int 0 0] }).objs.size = s.heap.objs.size + 1 := Heap.size_push ..
  show _ ∧ _
  rw [hz]
  have he : IsEnum ((s.heap.push { cls := .type "tuple_iterator", data := .fields #[.ref l, .int 0 0] }).push
      { cls := .type "enumerate", data := .fields #[.none, .bool false, .ref s.heap.objs.size, rawInt 0, .none, .none] }) (s.heap.objs.size + 1) s.heap.objs.size 0 .none := by
    have := Heap.get?_push_size (s.heap.push { cls := .type "tuple_iterator", data := .fields #[.ref l, .int 0 0] })
      (o := { cls := .type "enumerate", data := .fields #[.none, .bool false, .ref s.heap.objs.size, rawInt 0, .none, .none] }) rfl
    rw [hz] at this; exact this
  refine ⟨⟨_, he, rfl⟩, h _ he ⟨_, Heap.get?_push_of_some _ (Heap.get?_push_size _ rfl), rfl, rfl⟩ (by rw [Heap.size_push, hz]) fun b o x => Heap.get?_push_of_some _ (Heap.get?_push_of_some _ x)⟩
end
end PySem
namespace L2
open PySem PySem.Spec PyProof.Rows
/-- the tuple at a, each item in a new pair -/
def IteT (K : PySem.W.Frag) (a : Addr) : It :=
  ⟨fun i H => ∃ (xs : List V) (x : V), SqT K H a xs ∧ xs[i]? = some x, fun i H v H' => ∃ T x, v = .ref T ∧ H T = none ∧ H' = upd H T (.tup [.int (i : Nat), x]) ∧ ∀ xs, SqT K H a xs → xs[i]? = some x, fun i H => ∃ xs : List V, SqT K H a xs ∧ xs.length = i⟩
theorem turn_enumT {P : Program} {w : World} {K : PySem.W.Frag} {elts : List Expr} {kk : Nat} {tpos : Pos} (a e it : Addr) :
    Turn P w K (.Tuple elts kk tpos) (IteT K a) [e, it] e (fun i h => (∃ old, IsEnum h e it ((i : Nat) : Int) old) ∧ h.IsTupleIter it a i ∧ e ≠ it) where
  mem := by simp
  obj := fun i h st b hb => by
    obtain ⟨⟨old, he⟩, ⟨o, ho, hc, hd⟩, _⟩ := st
    have e' : b = e ∨ b = it := by simpa using hb
    rcases e' with z | z
    · rw [z]; exact ⟨_, he, fun v q => nomatch q⟩
    · rw [z]; exact ⟨o, ho, fun v q => by rw [hd] at q; cases q⟩
  keep := fun i h h' st k => let ⟨⟨old, he⟩, hi, hne⟩ := st; ⟨⟨old, k e (by simp) _ he⟩, hi.at fun o q => k it (by simp) o q, hne⟩
  item := by
    intro X hP hw hK hc i pins s σ H E I hf st hg
    subst hP hw hK
    obtain ⟨⟨old, he⟩, hit, hne⟩ := st
    obtain ⟨xs, x, hq, hx⟩ := hg
    obtain ⟨its, rv, p, hz⟩ := I.tuple hq
    have pt : s.heap.IsTuple a its.toArray := p
    obtain ⟨u, hu, ru⟩ := rv.get hx
    have hel : e < s.heap.objs.size := Heap.lt_size he
    have hil : it < s.heap.objs.size := by obtain ⟨_, q, _⟩ := hit; exact Heap.lt_size q
    have nai : a ≠ it := fun z => by
      obtain ⟨o1, q1, c1, _⟩ := hit
      obtain ⟨o2, q2, c2, _⟩ := pt
      rw [z, q1] at q2
      cases q2
      rw [c1] at c2
      injection c2 with c3
      exact absurd c3 (by decide)
    have nae : e ≠ a := fun z => by
      obtain ⟨o2, q2, c2, _⟩ := pt
      have he := he
      unfold IsEnum at he
      rw [z, q2] at he
      cases he
      injection c2 with c3
      exact absurd c3 (by decide)
    have D := Draws.tuple (prog := X.prog) (w := X.w) (A := X.A.in1) (I.ok.hd hc) it a nai its.toArray
    have hlt : i < its.toArray.size := by
      have := (List.getElem?_eq_some_iff.mp hu).1
      simpa using this
    refine wpAny_pyNext_enum_itemD D he ⟨hit, pt⟩ hlt hne (by simp [hne, nae]) fun y h' tk hP ho hst' hT hsz hk => ?_
    obtain rfl : u = y := by
      have : its.toArray[i]? = some u := by simpa using hu
      rw [this] at hP
      exact Option.some.inj hP
    obtain ⟨hit', _⟩ := hst'
    refine ⟨_, rfl, wpAny_letOwnedTupleGo_enum (s := { s with heap := h', toks := tk + 1 }) ho fun h'' he' sb => ?_⟩
    have hT2 : h''.get? s.heap.objs.size = some { cls := .type "tuple", data := .seq #[.int i tk, u] } := (sb.2 _ (Nat.ne_of_gt hel)).trans hT
    have new : ObjOk X.prog X.w (upd H s.heap.objs.size (.tup [.int (i : Nat), x])) h'' s.heap.objs.size (.tup [.int (i : Nat), x]) :=
      ⟨by show 2 ≤ sizeLine; decide, [.int i tk, u], .cons ⟨_, rfl⟩ (.cons ru .nil), ⟨_, hT2, rfl, _, rfl⟩⟩
    have I1 : Inv X pins σ (upd H s.heap.objs.size (.tup [.int (i : Nat), x])) { s with heap := h'', toks := tk + 1 } :=
      I.turnedNew (ch := [e, it]) (fun b ob hb q => (sb.2 b (fun z => hb (by simp [z]))).trans (hk b ob (fun z => hb (by simp [z])) (fun z => hb (by simp [z])) q)) hf (Nat.le_refl _) new
    refine ⟨.ref s.heap.objs.size, _, I1, rfl, ⟨_, x, rfl, I.hok.fresh (Nat.le_refl _), rfl, fun ys hy => by rw [I.tuple_inj hy hq]; exact hx⟩, ⟨⟨u, ?_⟩, hit'.at fun o q => (sb.2 it (Ne.symm hne)).trans q, hne⟩, fun b hb => ?_⟩
    · have e1 : ((i + 1 : Nat) : Int) = (i : Int) + 1 := by omega
      rw [e1]; exact he'
    · have hb' : b < s.heap.objs.size := by
        have e' : b = e ∨ b = it := by simpa using hb
        rcases e' with z | z
        · rw [z]; exact hel
        · rw [z]; exact hil
      rw [upd_ne (Nat.ne_of_lt hb')]
      exact (hf b hb).1
  done := by
    intro X hP hw hK hc i pins s σ H E I hf st hg
    subst hP hw hK
    obtain ⟨⟨old, he⟩, hit, hne⟩ := st
    obtain ⟨xs, hq, hx⟩ := hg
    obtain ⟨its, rv, p, hz⟩ := I.tuple hq
    have pt : s.heap.IsTuple a its.toArray := p
    obtain ⟨f0, f1, f2, f3, f4, f5⟩ := hf it (by simp)
    have hl := rv.length
    have nai : a ≠ it := fun z => by
      obtain ⟨o1, q1, c1, _⟩ := hit
      obtain ⟨o2, q2, c2, _⟩ := pt
      rw [z, q1] at q2
      cases q2
      rw [c1] at c2
      injection c2 with c3
      exact absurd c3 (by decide)
    have D := Draws.tuple (prog := X.prog) (w := X.w) (A := X.A.in1) (I.ok.hd hc) it a nai its.toArray
    have ei : its.toArray.size = i := by simp; omega
    exact wpAny_pyNext_enum_endD D he (by rw [ei]; exact ⟨hit, pt⟩) fun h' eb => ⟨rfl, I.turned (t' := s.toks) (fun b o hb q => eb b o hb q) f0 f1 f3 f4 f5⟩
  self := fun A i s Q E st h => let ⟨⟨_, he⟩, _⟩ := st; wpAny_pyIter_enum he h
def iEnumT (K : PySem.W.Frag) (ta : TA) : TI := fun σ H R => ta σ H fun vs H1 => ∃ a xs, vs = [.ref a] ∧ SqT K H1 a xs ∧ R (IteT K a) H1
theorem pi_enumT {X : Cx} {e : Expr} {ta : TA} {p pos tpos : Pos} {elts : List Expr} {kk : Nat} (hg : Gl X "enumerate") (hm : X.mg "enumerate" = none) (ha : PA X [e] ta) (hs : starEach [e] X.env = [(false, eval e X.env)] := by rfl) :
    PI X (.Tuple elts kk tpos) (.Call (.Name "enumerate" p) [e] [] pos) (iEnumT X.K ta) := by
  refine ⟨fun pins s σ H R I h => ?_⟩
  refine Call_ (ld_blt I hg hm boot_enumerate (PyProof.Rows.callWith_type1 (thn (ha.run pos pins s σ H _ I h) fun us s1 ⟨vs, H1, I1, r1, q1⟩ => ?_) hs rfl))
  obtain ⟨a, xs, ex, hq, q⟩ := q1
  subst ex
  cases r1 with
  | cons r rr =>
    cases rr
    cases r
    obtain ⟨its, rv, p', hz⟩ := I1.tuple hq
    refine call_enum_tuple (show s1.heap.IsTuple a its.toArray from p') fun h' he hit hsz hk => wpAny_pyIter_enum he ?_
    have I2 : Inv X pins σ H1 { s1 with heap := h' } := I1.kept (t' := s1.toks) hk
    refine ⟨s1.heap.objs.size + 1, [s1.heap.objs.size + 1, s1.heap.objs.size], _, _, H1, rfl, I2, turn_enumT a (s1.heap.objs.size + 1) s1.heap.objs.size, ⟨⟨.none, he⟩, hit, Nat.succ_ne_self _⟩, fun b hb => ?_, q⟩
    have e' : b = s1.heap.objs.size + 1 ∨ b = s1.heap.objs.size := by simpa using hb
    have hle : s1.heap.objs.size ≤ b := by
      rcases e' with z | z
      · rw [z]; exact Nat.le_add_right _ _
      · rw [z]; exact Nat.le_refl _
    exact I1.fpOk hle (I1.hok.fresh hle)
theorem walk_enumT {K : PySem.W.Frag} {a : Addr} {xs : List V} : Walk (IteT K a) xs.length (fun H => SqT K H a xs) (YPair (fun i => some (.int (i : Nat))) (fun i => xs[i]?)) :=
  ⟨fun i H hi h => ⟨xs, xs[i], h, List.getElem?_eq_getElem hi⟩, fun H h => ⟨xs, h, rfl⟩, fun i H v H' hi h ⟨T, x, e1, e2, e3, e4⟩ => ⟨T, _, x, e1, e2, e3, rfl, e4 xs h⟩⟩
end L2
namespace IdL
open PySem L2 TL
/-- as pe_fld, where the written part is to be said (in a comprehension) -/
theorem pe_fldK {X : Cx} {e : Expr} {f : Str} {pos : Pos} {ta : TE} (K : PySem.W.Frag) (hK : X.K = K) (he : PE X e ta) (hb : attributeBase e f X.env (eval e X.env) = eval e X.env) : PE X (.Attribute e f pos) (tFld K ta f) := by
  subst hK
  exact pe_fld he hb
/-! ### single values, rules -/
/-- what the built-in names stand for -/
structure Gv (mg : Str → Option Value) : Prop where
  len : mg "len" = none
  int : mg "int" = none
  bool : mg "bool" = none
  tuple : mg "tuple" = none
  list : mg "list" = none
  isi : mg "isinstance" = none
  sum : mg "sum" = none
  sorted : mg "sorted" = none
  range : mg "range" = none
  enum : mg "enumerate" = none
  max : mg "max" = none
  min : mg "min" = none
/-- a value whose type is known -/
inductive Kn (K : PySem.W.Frag) (H : Hp) : V → Prop
  | non : Kn K H .non
  | bl (b : Bool) : Kn K H (.bl b)
  | int (i : Int) : Kn K H (.int i)
  | str (z : Str) : Kn K H (.str z)
  | tup {a : Addr} : TyX K H (.ref a) (.type "tuple") → Kn K H (.ref a)
  | lst {a : Addr} : TyX K H (.ref a) (.type "list") → Kn K H (.ref a)
theorem SqT.ty {K : PySem.W.Frag} {H : Hp} {a : Addr} {xs : List V} (h : SqT K H a xs) : TyX K H (.ref a) (.type "tuple") := by
  rcases h with (h | ⟨o, h⟩) | ⟨o, its, n, h1, h2, _⟩
  · exact .base (.tup h)
  · exact .fTuple h
  · exact .kTuple h1 h2
theorem SqL.ty {K : PySem.W.Frag} {H : Hp} {a : Addr} {xs : List V} (h : SqL K H a xs) : TyX K H (.ref a) (.type "list") := by
  rcases h with (h | ⟨o, h⟩) | ⟨o, its, n, h1, h2, _⟩
  · exact .base (.lst h)
  · exact .base (.frz h)
  · exact .kList h1 h2
theorem Dp.kn {K : PySem.W.Frag} {H : Hp} {v : V} {d : PyData} (h : Dp K H v d) : Kn K H v := by
  cases h with
  | non => exact .non
  | bl b => exact .bl b
  | int i => exact .int i
  | str z => exact .str z
  | lst a b => exact .lst (SqL.ty a)
  | tup a b => exact .tup (SqT.ty a)
def wholeV : V → Bool
  | .int _ => true
  | _ => false
def fromV : V → Int → Bool
  | .int i, l => decide (l ≤ i)
  | _, _ => false
theorem scRu : FnScope ["number", "unit"] ["number", "unit"] (defScope (top 15)) := ⟨rfl, rfl, rfl, by decide +kernel, rfl, by decide +kernel, by decide +kernel⟩
theorem scCs : FnScope ["size"] ["size"] (defScope (top 16)) := ⟨rfl, rfl, rfl, by decide +kernel, rfl, by decide +kernel, by decide +kernel⟩
abbrev sRu : Stmt := top 15
abbrev sCs : Stmt := top 16
abbrev sIu : Stmt := inClass (top 17) 1
abbrev sNx : Stmt := inClass (top 17) 2
theorem scIu : FnScope ["self", "size"] ["self", "size"] (defScope sIu) := ⟨rfl, rfl, rfl, by decide +kernel, rfl, by decide +kernel, by decide +kernel⟩
theorem scNx : FnScope ["self", "size", "found"] ["self", "size"] (defScope sNx) := ⟨rfl, rfl, rfl, by decide +kernel, rfl, by decide +kernel, by decide +kernel⟩
def spWh (K : PySem.W.Frag) : Sp := fun vs H Q _ => ∃ v : V, vs = [v] ∧ Kn K H v ∧ Q (.bl (wholeV v)) H
def spFr (K : PySem.W.Frag) : Sp := fun vs H Q _ => ∃ (v : V) (l : Int), vs = [v, .int l] ∧ Kn K H v ∧ Q (.bl (fromV v l)) H
def spRu : Sp := fun vs H Q _ => ∃ n un : Int, vs = [.int n, .int un] ∧ 1 ≤ un ∧ un ≤ 1000000 ∧ n.natAbs < 2 ^ 60 ∧ Q (.int (roomI un n)) H
/-- a size from 1 on -/
def spCs : Sp := fun vs H Q _ => ∃ n : Int, vs = [.int n] ∧ 1 ≤ n ∧ Q .non H
structure FRu (K : PySem.W.Frag) (mg : Str → Option Value) (f : Addr) (d : FuncData) : Prop where
  u : Fun K "round_up" "round_up" sRu f d
  b : Binds K d ["number", "unit"] []
  g : mg "round_up" = some (.ref f)
structure FCs (K : PySem.W.Frag) (mg : Str → Option Value) (f : Addr) (d : FuncData) : Prop where
  u : Fun K "check_size" "check_size" sCs f d
  b : Binds K d ["size"] []
  g : mg "check_size" = some (.ref f)
def mostV : Option Int → V
  | none => .non
  | some m => .int m
def ruF (r : Ru) : List (Str × V) := [("head", .int r.hd), ("slot", .int r.sl), ("unit", .int r.un), ("most", mostV r.ms)]
/-- the rules stand as an object -/
def RulesAt (H : Hp) (x CP : Addr) (r : Ru) : Prop := ∃ dx, H x = some (.ins CP dx (ruF r))
def spPR5 (CC : Addr) : Sp := fun vs H Q _ => ∃ (x dx : Addr) (r : Ru), vs = [.ref x, .int r.hd, .int r.sl, .int r.un, mostV r.ms] ∧ RuOk r ∧ H x = some (.ins CC dx []) ∧ ∀ H', (∀ a o, a ≠ x → H a = some o → H' a = some o) → RulesAt H' x CC r → Q .non H'
def spIu (CC : Addr) : Sp := fun vs H Q _ => ∃ (x : Addr) (r : Ru) (n : Int), vs = [.ref x, .int n] ∧ RuOk r ∧ RulesAt H x CC r ∧ 1 ≤ n ∧ Q (.bl (inUse r n)) H
def nextU (r : Ru) (n : Int) : Option Int := match r.ms with
  | none => some (roomI r.un (max n r.hd))
  | some m => if m + 1 < roomI r.un (max n r.hd) then none else some (roomI r.un (max n r.hd))
def spNx (CC : Addr) : Sp := fun vs H Q _ => ∃ (x : Addr) (r : Ru) (n : Int), vs = [.ref x, .int n] ∧ RuOk r ∧ RulesAt H x CC r ∧ 1 ≤ n ∧ n ≤ 1000000 ∧ Q (mostV (nextU r n)) H
section
variable {P : Program} {w : World} {K : PySem.W.Frag} {mg : Str → Option Value} {base : Heap}
theorem ok_wh {f : Addr} {fd : FuncData} (F : Fun K "is_whole" "is_whole" sWhole f fd) (T : Gv mg) : FnOk P w K mg base CX0 1 f fd ["value"] (spWh K) := by
  refine F.ok scWhole (fun vs H Q E h => ?_) (fun cdv A outer s H vs Q E hr h => ?_)
  · obtain ⟨v, rfl, _⟩ := h
    rfl
  · obtain ⟨v, rfl, kn, k⟩ := h
    refine ⟨_, (pss_one (ps_ret (pe_and (pe_callB call_isi (by rfl) T.isi (by decide +kernel) (pa_cons (pv 0) (pa_cons (pe_bltn (v := .ty "int") rfl T.int (by decide +kernel) rfl) pa_nil))) (pe_one (pe_not (pe_callB call_isi (by rfl) T.isi (by decide +kernel) (pa_cons (pv 0) (pa_cons (pe_bltn (v := .ty "bool") rfl T.bool (by decide +kernel) rfl) pa_nil)))))))), ?_⟩
    cases kn with
    | non => exact ⟨_, rfl, .non, .ty "int", .type "NoneType", .type "int", false, rfl, .ty _, .base .non, kit_ty (by decide +kernel), _, rfl, iteF k⟩
    | bl b => exact ⟨_, rfl, .bl b, .ty "int", .type "bool", .type "int", true, rfl, .ty _, .base (.bl b), kit_ty (by decide +kernel), _, rfl, iteT ⟨_, rfl, .bl b, .ty "bool", .type "bool", .type "bool", true, rfl, .ty _, .base (.bl b), kit_ty (by decide +kernel), _, rfl, k⟩⟩
    | int i => exact ⟨_, rfl, .int i, .ty "int", .type "int", .type "int", true, rfl, .ty _, .base (.int i), kit_ty (by decide +kernel), _, rfl, iteT ⟨_, rfl, .int i, .ty "bool", .type "int", .type "bool", false, rfl, .ty _, .base (.int i), kit_ty (by decide +kernel), _, rfl, k⟩⟩
    | str z => exact ⟨_, rfl, .str z, .ty "int", .type "str", .type "int", false, rfl, .ty _, .base (.str z), kit_ty (by decide +kernel), _, rfl, iteF k⟩
    | @tup a h => exact ⟨_, rfl, .ref a, .ty "int", .type "tuple", .type "int", false, rfl, .ty _, h, kit_ty (by decide +kernel), _, rfl, iteF k⟩
    | @lst a h => exact ⟨_, rfl, .ref a, .ty "int", .type "list", .type "int", false, rfl, .ty _, h, kit_ty (by decide +kernel), _, rfl, iteF k⟩
theorem ok_fr {f fW : Addr} {fd dW : FuncData} (F : Fun K "is_from" "is_from" sFrom f fd) (W : FWhole K mg fW dW) (OW : FnOk P w K mg base CX0 1 fW dW ["value"] (spWh K)) : FnOk P w K mg base CX0 2 f fd ["value", "least"] (spFr K) := by
  refine F.ok scFrom (fun vs H Q E h => ?_) (fun cdv A outer s H vs Q E hr h => ?_)
  · obtain ⟨v, l, rfl, _⟩ := h
    rfl
  · obtain ⟨v, l, rfl, kn, k⟩ := h
    refine ⟨_, (pss_one (ps_ret (pe_and (pe_call OW hr rfl W.g W.u.kp W.b .nil pass0 (pa_cons (pv 0) pa_nil)) (pe_one (pe_cmpR op_ge (pv 0) (pv 1) (nomark _)))))), ?_⟩
    refine ⟨_, rfl, v, rfl, kn, _, rfl, ?_⟩
    cases v with
    | int i => exact iteT ⟨_, rfl, _, rfl, _, _, rfl, rfl, k⟩
    | _ => exact iteF k
theorem ok_ru {f : Addr} {fd : FuncData} (F : Fun K "round_up" "round_up" sRu f fd) : FnOk P w K mg base CX0 1 f fd ["number", "unit"] spRu := by
  refine F.ok scRu (fun vs H Q E h => ?_) (fun cdv A outer s H vs Q E hr h => ?_)
  · obtain ⟨n, un, rfl, _⟩ := h
    rfl
  · obtain ⟨n, un, rfl, u1, u2, nb, k⟩ := h
    refine ⟨_, (pss_one (ps_ret (pe_op op_mul (pe_un un_neg (pe_op op_fdivW (pe_un un_neg (pv 0)) (pv 1))) (pv 1)))), ?_⟩
    exact ⟨_, rfl, _, rfl, _, rfl, _, _, rfl, rfl, wide_div (b := 60) (by omega) (by omega) (by decide) (by decide), _, rfl, _, rfl, _, _, rfl, rfl, .inr ⟨by omega, by omega⟩, k⟩
theorem ok_cs {f fF : Addr} {fd dF : FuncData} {CS iS : Addr} (F : Fun K "check_size" "check_size" sCs f fd) (F2 : FFrom K mg fF dF) (OF : FnOk P w K mg base CX0 2 fF dF ["value", "least"] (spFr K)) (BS : BErr P K mg "BadSize" "BadSize.__init__" (inClass (top 6) 0) ["size"] CS iS) (su : mg "super" = none) :
    FnOk P w K mg base (CX P w) 3 f fd ["size"] spCs := by
  refine F.okX scCs (fun vs H Q E h => ?_) (fun cdv A outer s H vs Q E hr h => ?_)
  · obtain ⟨n, rfl, _⟩ := h
    rfl
  · obtain ⟨n, rfl, n1, k⟩ := h
    refine ⟨_, (pss_one (ps_if (pt_not (pt_val (pe_call OF hr rfl F2.g F2.u.kp F2.b .nil pass0 (pa_cons (pv 0) (pa_cons pe_int pa_nil))))) (pss_one (ps_raise rfl (takes_of rfl rfl rfl rfl) (pmk_err BS.T BS.F (by decide) BS.g su hr (pa_cons (pv 0) pa_nil)))) pss_nil)), ?_⟩
    refine ⟨_, rfl, .int n, 1, rfl, .int n, _, rfl, ?_⟩
    rw [show fromV (.int n) 1 = true from decide_eq_true n1]
    exact iteF k
theorem ok_pr5 {f fF fB CC : Addr} {fd dF dB : FuncData} (F : FunD K "__init__" "PageRules.__init__" (defArgs sPR) (defBody sPR) (defScope sPR) [.non] [] f fd) (FF : FFrom K mg fF dF) (FB : FBetw K mg fB dB) (OF : FnOk P w K mg base CX0 2 fF dF ["value", "least"] spFrom) (OB : FnOk P w K mg base CX0 2 fB dB ["value", "least", "most"] spBetw) (O : ORul K CC) {CR iR : Addr} (BR : BErr P K mg "BadRule" "BadRule.__init__" (inClass (top 5) 0) ["what"] CR iR) (su : mg "super" = none) :
    FnOk P w K mg base (CX P w) 3 f fd ["self", "head", "slot", "unit", "most"] (spPR5 CC) := by
  refine F.ok scPR (fun vs H Q E h => ?_) (fun cdv A outer s H vs Q E hr h => ?_)
  · obtain ⟨x, dx, r, rfl, _⟩ := h
    rfl
  · obtain ⟨x, dx, ⟨hd, sl, un, ms⟩, rfl, R, hx, k⟩ := h
    obtain ⟨r1, r2, r3, r4, r5, r6, r7⟩ := R
    dsimp only at r1 r2 r3 r4 r5 r6 r7
    refine ⟨_, (pss_cons (ps_if (pt_not (pt_val (pe_call OF hr rfl FF.g FF.u.kp FF.b .nil pass0 (pa_cons (pv 1) (pa_cons pe_int pa_nil))))) (pss_one (ps_raise rfl (takes_of rfl rfl rfl rfl) (pmk_err BR.T BR.F (by decide) BR.g su hr (pa_cons pe_str pa_nil)))) pss_nil)
 (pss_cons (ps_if (pt_not (pt_val (pe_call OB hr rfl FB.g FB.u.kp FB.b .nil pass0 (pa_cons (pv 2) (pa_cons pe_int (pa_cons pe_int pa_nil)))))) (pss_one (ps_raise rfl (takes_of rfl rfl rfl rfl) (pmk_err BR.T BR.F (by decide) BR.g su hr (pa_cons pe_str pa_nil)))) pss_nil)
 (pss_cons (ps_if (pt_not (pt_val (pe_call OB hr rfl FB.g FB.u.kp FB.b .nil pass0 (pa_cons (pv 3) (pa_cons pe_int (pa_cons pe_int pa_nil)))))) (pss_one (ps_raise rfl (takes_of rfl rfl rfl rfl) (pmk_err BR.T BR.F (by decide) BR.g su hr (pa_cons pe_str pa_nil)))) pss_nil)
 (pss_cons (ps_if (PW.pt (pw_and (pt_cmpR op_notN (pv 4) pe_non (nomark _)) (pw_and1 (pt_not (pt_val (pe_call OF hr rfl FF.g FF.u.kp FF.b .nil pass0 (pa_cons (pv 4) (pa_cons pe_int pa_nil)))))))) (pss_one (ps_raise rfl (takes_of rfl rfl rfl rfl) (pmk_err BR.T BR.F (by decide) BR.g su hr (pa_cons pe_str pa_nil)))) pss_nil)
 (pss_cons (ps_fld (pv 0) (pv 1) rfl)
 (pss_cons (ps_fld (pv 0) (pv 2) rfl)
 (pss_cons (ps_fld (pv 0) (pv 3) rfl)
 (pss_one (ps_fld (pv 0) (pv 4) rfl))))))))), ?_⟩
    refine ⟨_, rfl, hd, 0, rfl, _, rfl, ?_⟩
    rw [decide_eq_true r1]
    refine iteF ⟨_, rfl, sl, 1, 64, rfl, _, rfl, ?_⟩
    rw [decide_eq_true r3, decide_eq_true r4]
    refine iteF ⟨_, rfl, un, 1, 16, rfl, _, rfl, ?_⟩
    rw [decide_eq_true r5, decide_eq_true r6]
    refine iteF ⟨_, rfl, rfl, _, rfl, ?_⟩
    have fin : ∀ mv : V, mv = mostV ms → Q .non (upd H x (.ins CC dx [("head", .int hd), ("slot", .int sl), ("unit", .int un), ("most", mv)])) := fun mv e => by
      subst e
      exact k _ (fun a o n e => by rw [upd_ne n]; exact e) ⟨dx, upd_same⟩
    have e1 : putF "head" (.int hd) [] = ([("head", .int hd)] : List (Str × V)) := rfl
    have e2 : putF "slot" (.int sl) ([("head", .int hd)] : List (Str × V)) = ([("head", .int hd), ("slot", .int sl)] : List (Str × V)) := by kernel_rfl
    have e3 : putF "unit" (.int un) ([("head", .int hd), ("slot", .int sl)] : List (Str × V)) = ([("head", .int hd), ("slot", .int sl), ("unit", .int un)] : List (Str × V)) := by kernel_rfl
    have e4 : ∀ mv : V, putF "most" mv ([("head", .int hd), ("slot", .int sl), ("unit", .int un)] : List (Str × V)) = ([("head", .int hd), ("slot", .int sl), ("unit", .int un), ("most", mv)] : List (Str × V)) := fun mv => by kernel_rfl
    cases ms with
    | none =>
      refine iteNS rfl (iteF ?_)
      refine ⟨_, rfl, _, rfl, x, CC, dx, [], rfl, hx, O.cl, O.no "head" (by decide +kernel), by decide, ?_⟩
      rw [e1]
      refine ⟨_, rfl, _, rfl, x, CC, dx, _, rfl, upd_same, O.cl, O.no "slot" (by decide +kernel), (by show 1 < 1000; decide), ?_⟩
      rw [e2, upd_bag]
      refine ⟨_, rfl, _, rfl, x, CC, dx, _, rfl, upd_same, O.cl, O.no "unit" (by decide +kernel), (by show 2 < 1000; decide), ?_⟩
      rw [e3, upd_bag]
      refine ⟨_, rfl, _, rfl, x, CC, dx, _, rfl, upd_same, O.cl, O.no "most" (by decide +kernel), (by show 3 < 1000; decide), ?_⟩
      rw [e4, upd_bag]
      exact fin _ rfl
    | some m =>
      refine iteNN (fun z => nomatch z) ?_
      refine ⟨_, rfl, m, 1, rfl, _, rfl, ?_⟩
      rw [decide_eq_true (r7 m rfl)]
      refine iteF ?_
      refine ⟨_, rfl, _, rfl, x, CC, dx, [], rfl, hx, O.cl, O.no "head" (by decide +kernel), by decide, ?_⟩
      rw [e1]
      refine ⟨_, rfl, _, rfl, x, CC, dx, _, rfl, upd_same, O.cl, O.no "slot" (by decide +kernel), (by show 1 < 1000; decide), ?_⟩
      rw [e2, upd_bag]
      refine ⟨_, rfl, _, rfl, x, CC, dx, _, rfl, upd_same, O.cl, O.no "unit" (by decide +kernel), (by show 2 < 1000; decide), ?_⟩
      rw [e3, upd_bag]
      refine ⟨_, rfl, _, rfl, x, CC, dx, _, rfl, upd_same, O.cl, O.no "most" (by decide +kernel), (by show 3 < 1000; decide), ?_⟩
      rw [e4, upd_bag]
      exact fin _ rfl
theorem ok_iu {f fC CC : Addr} {fd dC : FuncData} (F : Fun K "in_use" "PageRules.in_use" sIu f fd) (CS : FCs K mg fC dC) (OC : FnOk P w K mg base (CX P w) 3 fC dC ["size"] spCs) (O : ORul K CC) :
    FnOk P w K mg base (CX P w) 4 f fd ["self", "size"] (spIu CC) := by
  refine F.okX scIu (fun vs H Q E h => ?_) (fun cdv A outer s H vs Q E hr h => ?_)
  · obtain ⟨x, r, n, rfl, _⟩ := h
    rfl
  · obtain ⟨x, r, n, rfl, R, ⟨dx, hx⟩, n1, k⟩ := h
    refine ⟨_, (pss_cons (ps_expr (pe_call OC hr rfl CS.g CS.u.kp CS.b .nil (passes_call (takes_of rfl rfl rfl rfl) fun _ _ _ _ z => z) (pa_cons (pv 1) pa_nil)))
 (pss_cons (ps_if (PW.pt (pw_or (pt_cmpR op_ne (pe_op op_modN (pv 1) (pe_fld (pv 0) rfl)) pe_int (nomark _)) (pw_or1 (pt_cmpR op_lt (pv 1) (pe_fld (pv 0) rfl) (nomark _))))) (pss_one (ps_ret pe_bl)) pss_nil)
 (pss_one (ps_ret (pe_or (pe_cmpR op_isN (pe_fld (pv 0) rfl) pe_non (nomark _)) (pe_one (pe_cmpR op_le (pv 1) (pe_op op_add (pe_fld (pv 0) rfl) pe_int) (nomark _)))))))), ?_⟩
    refine ⟨_, rfl, n, rfl, n1, ?_⟩
    have u0 := R.un0
    refine ⟨_, rfl, _, rfl, x, CC, dx, _, _, rfl, hx, O.cl, O.no "unit" (by decide +kernel), rfl, _, _, rfl, rfl, (by show r.un ≠ 0; omega), rfl, _, rfl, ?_⟩
    have kk : ∀ b, inUse r n = b → Q (.bl b) H := fun b e => e ▸ k
    unfold inUse at kk
    have fm : n.fmod r.un = n % r.un := Int.fmod_eq_emod_of_nonneg n (by omega)
    by_cases h0 : n % r.un = 0
    · refine iteNS (by show V.int (n.fmod r.un) = _; rw [fm, h0]) ?_
      refine ⟨_, rfl, _, rfl, x, CC, dx, _, _, rfl, hx, O.cl, O.no "head" (by decide +kernel), rfl, _, _, rfl, rfl, _, rfl, ?_⟩
      by_cases h1 : n < r.hd
      · refine iteY h1 (kk _ ?_)
        rw [decide_eq_true h1, Bool.or_true]; rfl
      · refine iteN h1 ?_
        refine ⟨_, rfl, x, CC, dx, _, _, rfl, hx, O.cl, O.no "most" (by decide +kernel), rfl, rfl, _, rfl, ?_⟩
        rw [decide_eq_false h1, decide_eq_false (fun y => y h0)] at kk
        cases hm : r.ms with
        | none =>
          refine iteY rfl (kk _ ?_)
          rw [hm]; rfl
        | some m =>
          refine iteN (fun z => nomatch z) ⟨_, rfl, _, rfl, x, CC, dx, _, _, rfl, hx, O.cl, O.no "most" (by decide +kernel), rfl, m, 1, ?_, rfl, _, _, rfl, rfl, kk _ ?_⟩
          · show mostV r.ms = _; rw [hm]; rfl
          · rw [hm]; rfl
    · refine iteNN (by show ¬ V.int (n.fmod r.un) = _; rw [fm]; exact fun z => h0 (V.int.inj z)) (kk _ ?_)
      rw [decide_eq_true h0]; rfl
theorem ok_nx {f fC fR CC : Addr} {fd dC dR : FuncData} (F : Fun K "next_in_use" "PageRules.next_in_use" sNx f fd) (CS : FCs K mg fC dC) (OC : FnOk P w K mg base (CX P w) 3 fC dC ["size"] spCs) (RU : FRu K mg fR dR) (OR : FnOk P w K mg base CX0 1 fR dR ["number", "unit"] spRu) (O : ORul K CC) (T : Gv mg) :
    FnOk P w K mg base (CX P w) 4 f fd ["self", "size"] (spNx CC) := by
  refine F.okX scNx (fun vs H Q E h => ?_) (fun cdv A outer s H vs Q E hr h => ?_)
  · obtain ⟨x, r, n, rfl, _⟩ := h
    rfl
  · obtain ⟨x, r, n, rfl, R, ⟨dx, hx⟩, n1, n2, k⟩ := h
    have hr1 := hr.mono (show 1 ≤ 3 by decide)
    refine ⟨_, (pss_cons (ps_expr (pe_call OC hr rfl CS.g CS.u.kp CS.b .nil (passes_call (takes_of rfl rfl rfl rfl) fun _ _ _ _ z => z) (pa_cons (pv 1) pa_nil)))
 (pss_cons (ps_set (i := 2) scNx.nd rfl (.inl rfl) (pe_call OR hr1 rfl RU.g RU.u.kp RU.b .nil pass0 (pa_cons (pe_callB (call_max2 rfl) (by rfl) T.max (by decide +kernel) (pa_cons (pv 1) (pa_cons (pe_fld (pv 0) rfl) pa_nil))) (pa_cons (pe_fld (pv 0) rfl) pa_nil))))
 (pss_cons (ps_if (PW.pt (pw_and (pt_cmpR op_notN (pe_fld (pv 0) rfl) pe_non (nomark _)) (pw_and1 (pt_cmpR op_gt (pv 2) (pe_op op_add (pe_fld (pv 0) rfl) pe_int) (nomark _))))) (pss_one (ps_ret pe_non)) pss_nil)
 (pss_one (ps_ret (pv 2)))))), ?_⟩
    refine ⟨_, rfl, n, rfl, n1, ?_⟩
    have u0 := R.un0
    have u1 := R.un1
    have h0 := R.hd0
    have h1 := R.hd1
    refine ⟨_, rfl, _, rfl, x, CC, dx, _, _, rfl, hx, O.cl, O.no "head" (by decide +kernel), rfl, _, _, rfl, _, rfl, x, CC, dx, _, _, rfl, hx, O.cl, O.no "unit" (by decide +kernel), rfl, _, _, rfl, u0, (by omega), ?_, ?_⟩
    · split <;> omega
    have em : (if r.hd > n then r.hd else n) = max n r.hd := by split <;> omega
    rw [em]
    refine ⟨_, rfl, x, CC, dx, _, _, rfl, hx, O.cl, O.no "most" (by decide +kernel), rfl, rfl, _, rfl, ?_⟩
    unfold nextU at k
    cases hm : r.ms with
    | none =>
      rw [hm] at k
      exact iteNS rfl ⟨_, rfl, k⟩
    | some m =>
      rw [hm] at k
      refine iteNN (fun z => nomatch z) ⟨_, rfl, _, rfl, x, CC, dx, _, _, rfl, hx, O.cl, O.no "most" (by decide +kernel), rfl, m, 1, ?_, rfl, _, _, rfl, rfl, _, rfl, ?_⟩
      · show mostV r.ms = _; rw [hm]; rfl
      by_cases h2 : m + 1 < roomI r.un (max n r.hd)
      · dsimp only at k
        rw [if_pos h2] at k
        exact iteY h2 k
      · dsimp only at k
        rw [if_neg h2] at k
        exact iteN h2 ⟨_, rfl, k⟩
end
end IdL
namespace IdL
open PySem L2 TL
/-! ### which values tell a page -/
def wholeD : PyData → Bool
  | .int _ => true
  | _ => false
def fromD : PyData → Int → Bool
  | .int i, l => decide (l ≤ i)
  | _, _ => false
def pairL : List PyData → Bool
  | [a, b] => wholeD a && wholeD b
  | _ => false
def pairD : PyData → Bool
  | .tuple ds => pairL ds
  | _ => false
def recL : List PyData → Bool
  | [a, b] => wholeD a && fromD b 1
  | _ => false
def recD : PyData → Bool
  | .none => true
  | .tuple ds => recL ds
  | _ => false
def rowD' : PyData → Bool
  | .tuple rs => rs.all recD
  | _ => false
def toldL : List PyData → Bool
  | [s, l, r] => fromD s 1 && (wholeD l && rowD' r)
  | _ => false
def toldD : PyData → Bool
  | .tuple ds => toldL ds
  | _ => false
/-- the records of a row as they stand -/
inductive RecV (H : Hp) : V → Option Rec → Prop
  | non : RecV H .non none
  | rc {t : Addr} {a l : Int} : H t = some (.tup [.int a, .int l]) → RecV H (.ref t) (some (a, l))
inductive RecsV (H : Hp) : List V → List (Option Rec) → Prop
  | nil : RecsV H [] []
  | cons {v : V} {vs : List V} {r : Option Rec} {rs : List (Option Rec)} : RecV H v r → RecsV H vs rs → RecsV H (v :: vs) (r :: rs)
theorem RecsV.len {H : Hp} : ∀ {vs : List V} {rs : List (Option Rec)}, RecsV H vs rs → vs.length = rs.length
  | _, _, .nil => rfl
  | _, _, .cons _ t => by rw [List.length_cons, List.length_cons, t.len]
theorem RecsV.get {H : Hp} : ∀ {vs : List V} {rs : List (Option Rec)}, RecsV H vs rs → ∀ {i : Nat} {v : V}, vs[i]? = some v → ∃ r, rs[i]? = some r ∧ RecV H v r
  | _, _, .cons h t, 0, v, e => by cases e; exact ⟨_, rfl, h⟩
  | _, _, .cons h t, i + 1, v, e => t.get (i := i) e
theorem KeepU.set {H : Hp} {p : Addr} {o : HO} (h : ∀ xs, H p ≠ some (.tup xs)) : KeepU H (upd H p o) := fun a xs e => by
  rw [upd_ne (fun z => by rw [z] at e; exact h xs e)]; exact e
theorem RecV.keep {H H' : Hp} (k : KeepU H H') {v : V} {r : Option Rec} (h : RecV H v r) : RecV H' v r := by
  cases h with
  | non => exact .non
  | rc e => exact .rc (k _ _ e)
theorem RecsV.keep {H H' : Hp} (k : KeepU H H') : ∀ {vs : List V} {rs : List (Option Rec)}, RecsV H vs rs → RecsV H' vs rs
  | _, _, .nil => .nil
  | _, _, .cons h t => .cons (h.keep k) (t.keep k)
theorem RecsV.app {H : Hp} : ∀ {vs ws : List V} {rs qs : List (Option Rec)}, RecsV H vs rs → RecsV H ws qs → RecsV H (vs ++ ws) (rs ++ qs)
  | _, _, _, _, .nil, b => b
  | _, _, _, _, .cons h t, b => .cons h (t.app b)
def recDt : Option Rec → PyData
  | none => .none
  | some (a, l) => .tuple [.int a, .int l]
theorem RecV.td {K : PySem.W.Frag} {H : Hp} {v : V} {r : Option Rec} (h : RecV H v r) : TD K H v (recDt r) := by
  cases h with
  | non => exact .non
  | rc e => exact .tup (SqT.of e) (.cons (.int _) (.cons (.int _) .nil))
theorem RecsV.td {K : PySem.W.Frag} {H : Hp} : ∀ {vs : List V} {rs : List (Option Rec)}, RecsV H vs rs → TDs K H vs (rs.map recDt)
  | _, _, .nil => .nil
  | _, _, .cons h t => .cons h.td t.td
def RowAt (H : Hp) (ta : Addr) (rs : List (Option Rec)) : Prop := ∃ xs, H ta = some (.tup xs) ∧ RecsV H xs rs
theorem RowAt.keep {H H' : Hp} (k : KeepU H H') {ta : Addr} {rs : List (Option Rec)} (h : RowAt H ta rs) : RowAt H' ta rs := by
  obtain ⟨xs, e, r⟩ := h
  exact ⟨xs, k _ _ e, r.keep k⟩
/-- a page stands as a tuple -/
def PgAt (H : Hp) (v : V) (s low : Int) (rs : List (Option Rec)) : Prop := ∃ p ta, v = .ref p ∧ H p = some (.tup [.int s, .int low, .ref ta]) ∧ RowAt H ta rs
theorem PgAt.keep {H H' : Hp} (k : KeepU H H') {v : V} {s low : Int} {rs : List (Option Rec)} (h : PgAt H v s low rs) : PgAt H' v s low rs := by
  obtain ⟨p, ta, e, hp, hr⟩ := h
  exact ⟨p, ta, e, k _ _ hp, hr.keep k⟩
def pgD (s low : Int) (rs : List (Option Rec)) : PyData := .tuple [.int s, .int low, .tuple (rs.map recDt)]
theorem PgAt.td {K : PySem.W.Frag} {H : Hp} {v : V} {s low : Int} {rs : List (Option Rec)} (h : PgAt H v s low rs) : TD K H v (pgD s low rs) := by
  obtain ⟨p, ta, rfl, hp, xs, hx, hr⟩ := h
  exact .tup (SqT.of hp) (.cons (.int _) (.cons (.int _) (.cons (.tup (SqT.of hx) hr.td) .nil)))
theorem recD_dt : ∀ r : Option Rec, recD (recDt r) = true ↔ ∀ p, r = some p → 1 ≤ p.2
  | none => ⟨(fun _ _ e => nomatch e), fun _ => rfl⟩
  | some (a, l) => by
    constructor
    · intro h p e
      cases e
      exact of_decide_eq_true h
    · intro h
      exact decide_eq_true (h _ rfl)
theorem toldD_pg (s low : Int) (rs : List (Option Rec)) : toldD (pgD s low rs) = true ↔ ToldP s rs := by
  unfold ToldP heldR
  show (decide (1 ≤ s) && (true && (rs.map recDt).all recD)) = true ↔ _
  rw [Bool.true_and, Bool.and_eq_true, decide_eq_true_eq, List.all_eq_true]
  refine and_congr Iff.rfl ⟨fun h p hp => ?_, fun h d hd => ?_⟩
  · obtain ⟨r, hr, e⟩ := List.mem_filterMap.mp hp
    exact (recD_dt r).mp (h _ (List.mem_map_of_mem hr)) p e
  · obtain ⟨r, hr, rfl⟩ := List.mem_map.mp hd
    refine (recD_dt r).mpr fun p e => h p (List.mem_filterMap.mpr ⟨r, hr, e⟩)
/-! ### the defs -/
abbrev sPa : Stmt := top 34
abbrev sRe : Stmt := top 35
abbrev sTo : Stmt := top 36
abbrev sRo : Stmt := top 37
abbrev sLa : Stmt := top 38
abbrev sIr : Stmt := top 39
abbrev sRp : Stmt := top 40
abbrev sHs : Stmt := top 41
abbrev sHa : Stmt := top 42
theorem scPa : FnScope ["value"] ["value"] (defScope sPa) := ⟨rfl, rfl, rfl, by decide +kernel, rfl, by decide +kernel, by decide +kernel⟩
theorem scRe : FnScope ["value"] ["value"] (defScope sRe) := ⟨rfl, rfl, rfl, by decide +kernel, rfl, by decide +kernel, by decide +kernel⟩
def NTo : List Str := ["page", "size", "low", "row", "record"]
theorem scTo : FnScope NTo ["page"] (defScope sTo) := ⟨rfl, rfl, rfl, by decide +kernel, rfl, by decide +kernel, by decide +kernel⟩
structure FPa (K : PySem.W.Frag) (mg : Str → Option Value) (f : Addr) (d : FuncData) : Prop where
  u : Fun K "is_pair" "is_pair" sPa f d
  b : Binds K d ["value"] []
  g : mg "is_pair" = some (.ref f)
structure FRe (K : PySem.W.Frag) (mg : Str → Option Value) (f : Addr) (d : FuncData) : Prop where
  u : Fun K "is_record" "is_record" sRe f d
  b : Binds K d ["value"] []
  g : mg "is_record" = some (.ref f)
structure FTol (K : PySem.W.Frag) (mg : Str → Option Value) (f : Addr) (d : FuncData) : Prop where
  u : Fun K "is_told" "is_told" sTo f d
  b : Binds K d ["page"] []
  g : mg "is_told" = some (.ref f)
def spPa (K : PySem.W.Frag) : Sp := fun vs H Q _ => ∃ (v : V) (d : PyData), vs = [v] ∧ Dp K H v d ∧ Q (.bl (pairD d)) H
def spRe (K : PySem.W.Frag) : Sp := fun vs H Q _ => ∃ (v : V) (d : PyData), vs = [v] ∧ Dp K H v d ∧ Q (.bl (recD d)) H
def spTol (K : PySem.W.Frag) : Sp := fun vs H Q _ => ∃ (v : V) (d : PyData), vs = [v] ∧ Dp K H v d ∧ (∀ rs x y, d = .tuple [x, y, .tuple rs] → rs.length ≤ 1000) ∧ (∀ H', Same H H' → Q (.bl (toldD d)) H')
theorem wholeV_D {K : PySem.W.Frag} {H : Hp} {v : V} {d : PyData} (h : Dp K H v d) : wholeV v = wholeD d := by
  cases h <;> rfl
theorem fromV_D {K : PySem.W.Frag} {H : Hp} {v : V} {d : PyData} (h : Dp K H v d) (l : Int) : fromV v l = fromD d l := by
  cases h <;> rfl
theorem SqL.same {K : PySem.W.Frag} {H H' : Hp} (s : Same H H') {a : Addr} {xs : List V} (h : SqL K H a xs) : SqL K H' a xs := s.seq h
mutual
theorem Dp.same {K : PySem.W.Frag} {H H' : Hp} (s : Same H H') : ∀ {v : V} {d : PyData}, Dp K H v d → Dp K H' v d
  | _, _, .non => .non
  | _, _, .bl b => .bl b
  | _, _, .int i => .int i
  | _, _, .str x => .str x
  | _, _, .lst h t => .lst (SqL.same s h) (DpAll.same s t)
  | _, _, .tup h t => .tup ((KeepT.of s).seq h) (DpAll.same s t)
theorem DpAll.same {K : PySem.W.Frag} {H H' : Hp} (s : Same H H') : ∀ {vs : List V} {ds : List PyData}, DpAll K H vs ds → DpAll K H' vs ds
  | _, _, .nil => .nil
  | _, _, .cons h t => .cons (Dp.same s h) (DpAll.same s t)
end
section
variable {P : Program} {w : World} {K : PySem.W.Frag} {mg : Str → Option Value} {base : Heap}
theorem ok_pa {f fW : Addr} {fd dW : FuncData} (F : Fun K "is_pair" "is_pair" sPa f fd) (W : FWhole K mg fW dW) (OW : FnOk P w K mg base CX0 1 fW dW ["value"] (spWh K)) (T : Gv mg) : FnOk P w K mg base CX0 2 f fd ["value"] (spPa K) := by
  refine F.ok scPa (fun vs H Q E h => ?_) (fun cdv A outer s H vs Q E hr h => ?_)
  · obtain ⟨v, d, rfl, _⟩ := h
    rfl
  · obtain ⟨v, d, rfl, dp, k⟩ := h
    refine ⟨_, (pss_one (ps_ret (pe_and (pe_callB call_isi (by rfl) T.isi (by decide +kernel) (pa_cons (pv 0) (pa_cons (pe_bltn (v := .ty "tuple") rfl T.tuple (by decide +kernel) rfl) pa_nil))) (pe_and (pe_cmpR op_eq (pe_callB call_len_seq (by rfl) T.len PySem.boot_len (pa_cons (pv 0) pa_nil)) pe_int (nomark _)) (pe_and (pe_call OW hr rfl W.g W.u.kp W.b .nil pass0 (pa_cons (pe_ix ix_tup (pv 0) pe_int (fun _ _ => rfl)) pa_nil)) (pe_one (pe_call OW hr rfl W.g W.u.kp W.b .nil pass0 (pa_cons (pe_ix ix_tup (pv 0) pe_int (fun _ _ => rfl)) pa_nil)))))))), ?_⟩
    cases dp with
    | non => exact ⟨_, rfl, .non, .ty "tuple", .type "NoneType", .type "tuple", false, rfl, .ty _, .base .non, kit_ty (by decide +kernel), _, rfl, iteF k⟩
    | bl b => exact ⟨_, rfl, .bl b, .ty "tuple", .type "bool", .type "tuple", false, rfl, .ty _, .base (.bl b), kit_ty (by decide +kernel), _, rfl, iteF k⟩
    | int b => exact ⟨_, rfl, .int b, .ty "tuple", .type "int", .type "tuple", false, rfl, .ty _, .base (.int b), kit_ty (by decide +kernel), _, rfl, iteF k⟩
    | str b => exact ⟨_, rfl, .str b, .ty "tuple", .type "str", .type "tuple", false, rfl, .ty _, .base (.str b), kit_ty (by decide +kernel), _, rfl, iteF k⟩
    | @lst a xs ds b c => exact ⟨_, rfl, .ref a, .ty "tuple", .type "list", .type "tuple", false, rfl, .ty _, SqL.ty b, kit_ty (by decide +kernel), _, rfl, iteF k⟩
    | @tup a xs ds b c =>
      refine ⟨_, rfl, .ref a, .ty "tuple", .type "tuple", .type "tuple", true, rfl, .ty _, SqT.ty b, kit_ty (by decide +kernel), _, rfl, iteT ?_⟩
      refine ⟨_, rfl, a, xs, rfl, .inr b, rfl, _, rfl, ?_⟩
      rw [dec_i]
      cases c with
      | nil => exact iteN (by show ¬ ((0 : Nat) : Int) = 2; decide) k
      | cons h1 t1 =>
        cases t1 with
        | nil => exact iteN (by show ¬ ((1 : Nat) : Int) = 2; decide) k
        | cons h2 t2 =>
          cases t2 with
          | cons h3 t3 =>
            refine iteN (by simp only [List.length_cons]; omega) ?_
            exact k
          | nil =>
            refine iteY rfl ?_
            refine ⟨_, rfl, a, _, 0, _, rfl, rfl, b, atI_nat (j := 0) rfl, _, rfl, Dp.kn h1, _, rfl, ?_⟩
            rw [wholeV_D h1]
            cases h1 with
            | int i1 =>
              refine iteT ⟨_, rfl, a, _, 1, _, rfl, rfl, b, atI_nat (j := 1) rfl, _, rfl, Dp.kn h2, ?_⟩
              rw [wholeV_D h2]
              cases h2 <;> exact k
            | _ => exact iteF k
theorem ok_re {f fP : Addr} {fd dP : FuncData} (F : Fun K "is_record" "is_record" sRe f fd) (PA : FPa K mg fP dP) (OP : FnOk P w K mg base CX0 2 fP dP ["value"] (spPa K)) : FnOk P w K mg base CX0 3 f fd ["value"] (spRe K) := by
  refine F.ok scRe (fun vs H Q E h => ?_) (fun cdv A outer s H vs Q E hr h => ?_)
  · obtain ⟨v, d, rfl, _⟩ := h
    rfl
  · obtain ⟨v, d, rfl, dp, k⟩ := h
    refine ⟨_, (pss_one (ps_ret (pe_or (pe_cmpR op_isN (pv 0) pe_non (nomark _)) (pe_one (pe_and (pe_call OP hr rfl PA.g PA.u.kp PA.b .nil pass0 (pa_cons (pv 0) pa_nil)) (pe_one (pe_cmpR op_ge (pe_ix ix_tup (pv 0) pe_int (fun _ _ => rfl)) pe_int (nomark _)))))))), ?_⟩
    refine ⟨_, rfl, rfl, _, rfl, ?_⟩
    cases dp with
    | non => exact iteY rfl k
    | bl b => exact iteN (fun z => nomatch z) ⟨_, rfl, .bl b, _, rfl, .bl b, _, rfl, iteF k⟩
    | int b => exact iteN (fun z => nomatch z) ⟨_, rfl, .int b, _, rfl, .int b, _, rfl, iteF k⟩
    | str b => exact iteN (fun z => nomatch z) ⟨_, rfl, .str b, _, rfl, .str b, _, rfl, iteF k⟩
    | @lst a xs ds b c => exact iteN (fun z => nomatch z) ⟨_, rfl, .ref a, _, rfl, .lst b c, _, rfl, iteF k⟩
    | @tup a xs ds b c =>
      refine iteN (fun z => nomatch z) ⟨_, rfl, .ref a, _, rfl, .tup b c, _, rfl, ?_⟩
      cases c with
      | nil => exact iteF k
      | cons h1 t1 =>
        cases t1 with
        | nil => exact iteF k
        | cons h2 t2 =>
          cases t2 with
          | cons h3 t3 => exact iteF k
          | nil =>
            cases h1 with
            | int i1 =>
              cases h2 with
              | int i2 => exact iteT ⟨_, rfl, a, _, 1, .int i2, rfl, rfl, b, atI_nat (j := 1) rfl, _, _, rfl, rfl, k⟩
              | _ => exact iteF k
            | _ => exact iteF k
theorem count_no {α : Type} (p : α → Bool) : ∀ l : List α, (((l.filter fun x => !p x).length : Int) = 0) ↔ l.all p = true := fun l => by
  rw [List.all_eq_true]
  constructor
  · intro h x hx
    have h0 : (l.filter fun x => !p x).length = 0 := by omega
    cases e : p x with
    | true => rfl
    | false =>
      have : x ∈ l.filter fun x => !p x := List.mem_filter.mpr ⟨hx, by rw [e]; rfl⟩
      rw [List.length_eq_zero_iff.mp h0] at this
      cases this
  · intro h
    have : l.filter (fun x => !p x) = [] := List.filter_eq_nil_iff.mpr fun x hx => by rw [h x hx]; decide
    rw [this]; rfl
theorem dpall_get {H : Hp} : ∀ {vs : List V} {ds : List PyData}, DpAll K H vs ds → ∀ {i : Nat} {v : V}, vs[i]? = some v → ∃ d, ds[i]? = some d ∧ Dp K H v d
  | _, _, .cons h t, 0, v, e => by cases e; exact ⟨_, rfl, h⟩
  | _, _, .cons h t, i + 1, v, e => dpall_get t (i := i) e
theorem dpall_len {H : Hp} : ∀ {vs : List V} {ds : List PyData}, DpAll K H vs ds → vs.length = ds.length
  | _, _, .nil => rfl
  | _, _, .cons _ t => by rw [List.length_cons, List.length_cons, dpall_len t]
theorem toldL_len {ds : List PyData} (h : ds.length ≠ 3) : toldL ds = false := by
  match ds, h with
  | [], _ => rfl
  | [_], _ => rfl
  | [_, _], _ => rfl
  | [_, _, _], h => exact absurd rfl h
  | _ :: _ :: _ :: _ :: _, _ => rfl
theorem dp_three {H : Hp} {xs : List V} {ds : List PyData} (c : DpAll K H xs ds) (h : ds.length = 3) : ∃ v1 v2 v3 d1 d2 d3, xs = [v1, v2, v3] ∧ ds = [d1, d2, d3] ∧ Dp K H v1 d1 ∧ Dp K H v2 d2 ∧ Dp K H v3 d3 := by
  cases c with
  | nil => cases h
  | cons h1 c =>
    cases c with
    | nil => cases h
    | cons h2 c =>
      cases c with
      | nil => cases h
      | cons h3 c =>
        cases c with
        | nil => exact ⟨_, _, _, _, _, _, rfl, rfl, h1, h2, h3⟩
        | cons h4 c => simp only [List.length_cons] at h; omega
theorem ok_told {f fR fW fF : Addr} {fd dR dW dF : FuncData} (F : Fun K "is_told" "is_told" sTo f fd) (W : FWhole K mg fW dW) (OW : FnOk P w K mg base CX0 1 fW dW ["value"] (spWh K)) (FF : FFrom K mg fF dF) (OF : FnOk P w K mg base CX0 2 fF dF ["value", "least"] (spFr K))
    (RE : FRe K mg fR dR) (OR : FnOk P w K mg base CX0 3 fR dR ["value"] (spRe K)) (T : Gv mg) : FnOk P w K mg base CX0 4 f fd ["page"] (spTol K) := by
  refine F.ok scTo (fun vs H Q E h => ?_) (fun cdv A outer s H vs Q E hr h => ?_)
  · obtain ⟨v, d, rfl, _⟩ := h
    rfl
  · obtain ⟨v, d, rfl, dp, few, k⟩ := h
    have hr1 := hr.mono (show 1 ≤ 3 by decide)
    have hr2 := hr.mono (show 2 ≤ 3 by decide)
    refine ⟨_, (pss_cons (ps_if (PW.pt (pw_or (pt_not (pt_val (pe_callB call_isi (by rfl) T.isi (by decide +kernel) (pa_cons (pv 0) (pa_cons (pe_bltn (v := .ty "tuple") rfl T.tuple (by decide +kernel) rfl) pa_nil))))) (pw_or1 (pt_cmpR op_ne (pe_callB call_len_seq (by rfl) T.len PySem.boot_len (pa_cons (pv 0) pa_nil)) pe_int (nomark _))))) (pss_one (ps_ret pe_bl)) pss_nil)
 (pss_cons (ps_asg (pv 0) (pg_tup rfl (pgs_cons (pg_name (i := 1) scTo.nd rfl (.inl rfl)) (pgs_cons (pg_name (i := 2) scTo.nd rfl (.inl rfl)) (pgs_cons (pg_name (i := 3) scTo.nd rfl (.inl rfl)) pgs_nil)))))
 (pss_cons (ps_if (PW.pt (pw_or (pt_not (pt_val (pe_call OF hr2 rfl FF.g FF.u.kp FF.b .nil pass0 (pa_cons (pv 1) (pa_cons pe_int pa_nil))))) (pw_or (pt_not (pt_val (pe_call OW hr1 rfl W.g W.u.kp W.b .nil pass0 (pa_cons (pv 2) pa_nil)))) (pw_or1 (pt_not (pt_val (pe_callB call_isi (by rfl) T.isi (by decide +kernel) (pa_cons (pv 3) (pa_cons (pe_bltn (v := .ty "tuple") rfl T.tuple (by decide +kernel) rfl) pa_nil))))))))) (pss_one (ps_ret pe_bl)) pss_nil)
 (pss_one (ps_ret (pe_cmpR op_eq (pe_callB call_len_seq (by rfl) T.len PySem.boot_len (pa_cons (pe_lc (own := [("record", 4)]) (g := (gName 4)) (by rfl) scTo.nd (pi_tup (pv 3)) (blkOk_by (N := NTo) (sc := defScope sTo) (by decide +kernel)) (fun _ _ _ _ _ => (pg_name (i := 4) scTo.nd rfl (.inl rfl))) (fun _ _ _ _ _ => (pts_one (pt_not (pt_val (pe_call OR hr rfl RE.g RE.u.kp RE.b .nil pass0 (pa_cons (pv 4) pa_nil)))))) (fun _ _ _ _ _ => pe_bl)) pa_nil)) pe_int (nomark _))))))), ?_⟩
    have k0 : toldD d = false → Q (.bl false) H := fun e => by
      have := k H (Same.refl H)
      rw [e] at this; exact this
    cases dp with
    | non => exact ⟨_, rfl, .non, .ty "tuple", .type "NoneType", .type "tuple", false, rfl, .ty _, .base .non, kit_ty (by decide +kernel), _, rfl, iteT (iteT (k0 rfl))⟩
    | bl b => exact ⟨_, rfl, .bl b, .ty "tuple", .type "bool", .type "tuple", false, rfl, .ty _, .base (.bl b), kit_ty (by decide +kernel), _, rfl, iteT (iteT (k0 rfl))⟩
    | int b => exact ⟨_, rfl, .int b, .ty "tuple", .type "int", .type "tuple", false, rfl, .ty _, .base (.int b), kit_ty (by decide +kernel), _, rfl, iteT (iteT (k0 rfl))⟩
    | str b => exact ⟨_, rfl, .str b, .ty "tuple", .type "str", .type "tuple", false, rfl, .ty _, .base (.str b), kit_ty (by decide +kernel), _, rfl, iteT (iteT (k0 rfl))⟩
    | @lst a xs ds b c => exact ⟨_, rfl, .ref a, .ty "tuple", .type "list", .type "tuple", false, rfl, .ty _, SqL.ty b, kit_ty (by decide +kernel), _, rfl, iteT (iteT (k0 rfl))⟩
    | @tup a xs ds b c =>
      refine ⟨_, rfl, .ref a, .ty "tuple", .type "tuple", .type "tuple", true, rfl, .ty _, SqT.ty b, kit_ty (by decide +kernel), _, rfl, iteF ?_⟩
      refine ⟨_, rfl, a, xs, rfl, .inr b, rfl, _, rfl, ?_⟩
      rw [dec_i]
      by_cases h3 : ds.length = 3
      · have hx : xs.length = 3 := by rw [dpall_len c, h3]
        refine iteNS (by rw [hx]; rfl) ?_
        obtain ⟨v1, v2, v3, d1, d2, d3, rfl, rfl, c1, c2, c3⟩ := dp_three c h3
        · refine ⟨_, rfl, a, _, rfl, b, rfl, _, _, rfl, _, _, rfl, _, _, rfl, rfl, ?_⟩
          refine ⟨_, rfl, v1, 1, rfl, Dp.kn c1, _, rfl, ?_⟩
          rw [fromV_D c1]
          cases e1 : fromD d1 1 with
          | false => exact iteT (iteT (k0 (by show (fromD d1 1 && _) = false; rw [e1]; rfl)))
          | true =>
            refine iteF ⟨_, rfl, v2, rfl, Dp.kn c2, _, rfl, ?_⟩
            rw [wholeV_D c2]
            cases e2 : wholeD d2 with
            | false => exact iteT (iteT (k0 (by show (fromD d1 1 && (wholeD d2 && _)) = false; rw [e1, e2]; rfl)))
            | true =>
              have kk : ∀ q, rowD' d3 = q → ∀ H', Same H H' → Q (.bl q) H' := fun q e H' s' => by
                have := k H' s'
                rw [show toldD (.tuple [d1, d2, d3]) = q from by show (fromD d1 1 && (wholeD d2 && rowD' d3)) = q; rw [e1, e2, e]; rfl] at this
                exact this
              cases c3 with
              | non => exact iteF ⟨_, rfl, .non, .ty "tuple", .type "NoneType", .type "tuple", false, rfl, .ty _, .base .non, kit_ty (by decide +kernel), _, rfl, iteT (kk false rfl H (Same.refl H))⟩
              | bl q => exact iteF ⟨_, rfl, .bl q, .ty "tuple", .type "bool", .type "tuple", false, rfl, .ty _, .base (.bl q), kit_ty (by decide +kernel), _, rfl, iteT (kk false rfl H (Same.refl H))⟩
              | int q => exact iteF ⟨_, rfl, .int q, .ty "tuple", .type "int", .type "tuple", false, rfl, .ty _, .base (.int q), kit_ty (by decide +kernel), _, rfl, iteT (kk false rfl H (Same.refl H))⟩
              | str q => exact iteF ⟨_, rfl, .str q, .ty "tuple", .type "str", .type "tuple", false, rfl, .ty _, .base (.str q), kit_ty (by decide +kernel), _, rfl, iteT (kk false rfl H (Same.refl H))⟩
              | @lst la lx ld lb lc => exact iteF ⟨_, rfl, .ref la, .ty "tuple", .type "list", .type "tuple", false, rfl, .ty _, SqL.ty lb, kit_ty (by decide +kernel), _, rfl, iteT (kk false rfl H (Same.refl H))⟩
              | @tup ra ys es rb rc =>
                refine iteF ⟨_, rfl, .ref ra, .ty "tuple", .type "tuple", .type "tuple", true, rfl, .ty _, SqT.ty rb, kit_ty (by decide +kernel), _, rfl, iteF ?_⟩
                have hes := few es d1 d2 rfl
                have ly := dpall_len rc
                refine ⟨_, rfl, ra, rfl, ⟨_, rb⟩, fun D hD => lc_tup (K := K) (a := ra) (xs := ys) (fun i G => Same H G ∧ ∃ acc, G D = some (.lst acc) ∧ acc.length = ((es.take i).filter fun d => !recD d).length) ⟨same_new hD, [], upd_same, rfl⟩ (fun i G _ ⟨sG, _⟩ => (KeepT.of sG).seq rb) ?_ ?_⟩
                · rintro i y G hi ⟨sG, acc, hG, la⟩
                  obtain ⟨d, hd, hyd⟩ := dpall_get rc hi
                  have hi' := (List.getElem?_eq_some_iff.mp hi).1
                  have lfil : ((es.take i).filter fun d => !recD d).length ≤ i := Nat.le_trans (List.length_filter_le _ _) (by rw [List.length_take]; omega)
                  refine ⟨rfl, _, rfl, y, d, rfl, Dp.same sG hyd, _, rfl, ?_⟩
                  rw [List.take_add_one, hd, List.filter_append]
                  cases er : recD d with
                  | true =>
                    refine iteF ⟨sG, acc, hG, ?_⟩
                    rw [la]
                    show _ = (_ ++ [d].filter fun d => !recD d).length
                    rw [show [d].filter (fun d => !recD d) = [] from by rw [List.filter_cons, er]; rfl, List.append_nil]
                  | false =>
                    refine iteT ⟨acc, hG, (by rw [sizeLine_eq]; omega), fun c o e => ?_, _, upd_same, ?_⟩
                    · rw [upd_ne (fun y => by rw [y, hD] at e; cases e)]; exact sG _ _ e
                    · rw [List.length_append, List.length_append, la]
                      show _ = _ + ([d].filter fun d => !recD d).length
                      rw [show [d].filter (fun d => !recD d) = [d] from by rw [List.filter_cons, er]; rfl]
                      rfl
                · rintro G ⟨sG, acc, hG, la⟩
                  rw [ly, List.take_length] at la
                  refine ⟨D, acc, rfl, .inl (SqL.of hG), rfl, ?_⟩
                  rw [dec_i, la]
                  refine kk _ ?_ G sG
                  show es.all recD = _
                  cases ea : es.all recD with
                  | true => exact (decide_eq_true ((count_no recD es).mpr ea)).symm
                  | false => exact (decide_eq_false fun y => by rw [(count_no recD es).mp y] at ea; cases ea).symm
      · have e0 : toldD (.tuple ds) = false := toldL_len h3
        refine iteNN (fun y => h3 ?_) (k0 e0)
        rw [← dpall_len c]
        omega
end
end IdL
namespace IdL
open PySem L2 TL
/-! ### right pages -/
theorem scRo : FnScope ["rules", "row", "record"] ["rules", "row"] (defScope sRo) := ⟨rfl, rfl, rfl, by decide +kernel, rfl, by decide +kernel, by decide +kernel⟩
def NRo : List Str := ["rules", "row", "record"]
def NLa : List Str := ["rules", "size", "low", "row", "free", "record", "at", "length"]
theorem scLa : FnScope NLa ["rules", "size", "low", "row"] (defScope sLa) := ⟨rfl, rfl, rfl, by decide +kernel, rfl, by decide +kernel, by decide +kernel⟩
theorem scIr : FnScope ["rules", "size", "low", "row", "edge"] ["rules", "size", "low", "row"] (defScope sIr) := ⟨rfl, rfl, rfl, by decide +kernel, rfl, by decide +kernel, by decide +kernel⟩
theorem scRp : FnScope ["rules", "page", "size", "low", "row"] ["rules", "page"] (defScope sRp) := ⟨rfl, rfl, rfl, by decide +kernel, rfl, by decide +kernel, by decide +kernel⟩
theorem scHs : FnScope ["row", "number"] ["row", "number"] (defScope sHs) := ⟨rfl, rfl, rfl, by decide +kernel, rfl, by decide +kernel, by decide +kernel⟩
theorem scHa : FnScope ["kind", "row", "handed"] ["kind", "row", "handed"] (defScope sHa) := ⟨rfl, rfl, rfl, by decide +kernel, rfl, by decide +kernel, by decide +kernel⟩
structure FRo (K : PySem.W.Frag) (mg : Str → Option Value) (f : Addr) (d : FuncData) : Prop where
  u : Fun K "rooms_of" "rooms_of" sRo f d
  b : Binds K d ["rules", "row"] []
  g : mg "rooms_of" = some (.ref f)
structure FLa (K : PySem.W.Frag) (mg : Str → Option Value) (f : Addr) (d : FuncData) : Prop where
  u : Fun K "are_laid_right" "are_laid_right" sLa f d
  b : Binds K d ["rules", "size", "low", "row"] []
  g : mg "are_laid_right" = some (.ref f)
structure FIr (K : PySem.W.Frag) (mg : Str → Option Value) (f : Addr) (d : FuncData) : Prop where
  u : Fun K "is_right" "is_right" sIr f d
  b : Binds K d ["rules", "size", "low", "row"] []
  g : mg "is_right" = some (.ref f)
structure FRp (K : PySem.W.Frag) (mg : Str → Option Value) (f : Addr) (d : FuncData) : Prop where
  u : Fun K "is_right_page" "is_right_page" sRp f d
  b : Binds K d ["rules", "page"] []
  g : mg "is_right_page" = some (.ref f)
structure FHs (K : PySem.W.Frag) (mg : Str → Option Value) (f : Addr) (d : FuncData) : Prop where
  u : Fun K "is_held_slot" "is_held_slot" sHs f d
  b : Binds K d ["row", "number"] []
  g : mg "is_held_slot" = some (.ref f)
structure FHa (K : PySem.W.Frag) (mg : Str → Option Value) (f : Addr) (d : FuncData) : Prop where
  u : Fun K "is_handed" "is_handed" sHa f d
  b : Binds K d ["kind", "row", "handed"] []
  g : mg "is_handed" = some (.ref f)
/-- a row of bounded numbers -/
structure SmallR (rs : List (Option Rec)) : Prop where
  len : rs.length ≤ 1000
  num : ∀ p ∈ heldR rs, p.1.natAbs < 2 ^ 50 ∧ p.2.natAbs < 2 ^ 50
theorem held_mem {rs : List (Option Rec)} {i : Nat} {p : Rec} (h : rs[i]? = some (some p)) : p ∈ heldR rs := List.mem_filterMap.mpr ⟨_, List.mem_of_getElem? h, rfl⟩
theorem held_take_none {rs : List (Option Rec)} {i : Nat} (h : rs[i]? = some none) : heldR (rs.take (i + 1)) = heldR (rs.take i) := by
  unfold heldR
  rw [List.take_add_one, h, List.filterMap_append]
  exact List.append_nil _
theorem held_take_some {rs : List (Option Rec)} {i : Nat} {p : Rec} (h : rs[i]? = some (some p)) : heldR (rs.take (i + 1)) = heldR (rs.take i) ++ [p] := by
  unfold heldR
  rw [List.take_add_one, h, List.filterMap_append]
  rfl
theorem held_len (rs : List (Option Rec)) : (heldR rs).length ≤ rs.length := List.length_filterMap_le _ _
def roomsR (un : Int) (rs : List (Option Rec)) : Int := ((heldR rs).map fun p => roomI un p.2).sum
def spRo (CP : Addr) : Sp := fun vs H Q _ => ∃ (x ta : Addr) (r : Ru) (rs : List (Option Rec)), vs = [.ref x, .ref ta] ∧ RulesAt H x CP r ∧ RuOk r ∧ RowAt H ta rs ∧ SmallR rs ∧ ∀ H', Same H H' → Q (.int (roomsR r.un rs)) H'
def spLa (CP : Addr) : Sp := fun vs H Q _ => ∃ (x ta : Addr) (r : Ru) (s low : Int) (rs : List (Option Rec)), vs = [.ref x, .int s, .int low, .ref ta] ∧ RulesAt H x CP r ∧ RuOk r ∧ RowAt H ta rs ∧ SmallR rs ∧ low ≤ s ∧ (∀ p ∈ heldR rs, 1 ≤ p.2) ∧
  ∀ b H', (b = true ↔ Disj r.un low s (heldR rs)) → Same H H' → Q (.bl b) H'
def spIr (CP : Addr) : Sp := fun vs H Q _ => ∃ (x ta : Addr) (r : Ru) (s low : Int) (rs : List (Option Rec)), vs = [.ref x, .int s, .int low, .ref ta] ∧ RulesAt H x CP r ∧ RuOk r ∧ RowAt H ta rs ∧ SmallR rs ∧ (∀ p ∈ heldR rs, 1 ≤ p.2) ∧
  ∀ b H', (b = true ↔ RightP r s low rs) → Same H H' → Q (.bl b) H'
def spRp (K : PySem.W.Frag) (CP : Addr) : Sp := fun vs H Q _ => ∃ (x : Addr) (r : Ru) (v : V), vs = [.ref x, v] ∧ RulesAt H x CP r ∧ RuOk r ∧
  ((∃ d, Dp K H v d ∧ toldD d = false ∧ (∀ rs x y, d = .tuple [x, y, .tuple rs] → rs.length ≤ 1000) ∧ ∀ H', Same H H' → Q (.bl false) H') ∨
    ∃ s low rs, PgAt H v s low rs ∧ SmallR rs ∧ ∀ b H', (b = true ↔ RightPage r s low rs) → Same H H' → Q (.bl b) H')
def heldD (rs : List (Option Rec)) : PyData → Bool
  | .int i => decide (0 ≤ i) && (decide (i < (rs.length : Int)) && (rs.getD i.toNat none).isSome)
  | _ => false
def setL (rs : List (Option Rec)) : List PyData → Bool
  | [a, b] => heldD rs a && fromD b 1
  | _ => false
def setD (rs : List (Option Rec)) : PyData → Bool
  | .tuple ds => pairL ds && setL rs ds
  | _ => false
def handedD (kd : Str) (rs : List (Option Rec)) (d : PyData) : Bool := if kd = "put" then fromD d 1 else if kd = "strike" then heldD rs d else if kd = "set" then setD rs d else isNoneD d
def spHs (K : PySem.W.Frag) : Sp := fun vs H Q _ => ∃ (ta : Addr) (v : V) (d : PyData) (rs : List (Option Rec)), vs = [.ref ta, v] ∧ RowAt H ta rs ∧ Dp K H v d ∧ Q (.bl (heldD rs d)) H
def spHa (K : PySem.W.Frag) : Sp := fun vs H Q _ => ∃ (kd : Str) (ta : Addr) (v : V) (d : PyData) (rs : List (Option Rec)), vs = [.str kd, .ref ta, v] ∧ RowAt H ta rs ∧ Dp K H v d ∧ Q (.bl (handedD kd rs d)) H
/-- the pair that a value stands for -/
def kR (H : Hp) : V → Int × Int
  | .ref t => match H t with
    | some (.tup [.int a, .int b]) => (a, b)
    | _ => (0, 0)
  | _ => (0, 0)
/-- values of records, no none among them -/
inductive HeldV (H : Hp) : List V → List Rec → Prop
  | nil : HeldV H [] []
  | cons {t : Addr} {a l : Int} {vs : List V} {ps : List Rec} : H t = some (.tup [.int a, .int l]) → HeldV H vs ps → HeldV H (.ref t :: vs) ((a, l) :: ps)
theorem HeldV.snoc {H : Hp} {t : Addr} {a l : Int} (h : H t = some (.tup [.int a, .int l])) : ∀ {vs : List V} {ps : List Rec}, HeldV H vs ps → HeldV H (vs ++ [.ref t]) (ps ++ [(a, l)])
  | _, _, .nil => .cons h .nil
  | _, _, .cons k t => .cons k (t.snoc h)
theorem HeldV.keep {H H' : Hp} (k : KeepU H H') : ∀ {vs : List V} {ps : List Rec}, HeldV H vs ps → HeldV H' vs ps
  | _, _, .nil => .nil
  | _, _, .cons h t => .cons (k _ _ h) (t.keep k)
theorem HeldV.map {H : Hp} : ∀ {vs : List V} {ps : List Rec}, HeldV H vs ps → vs.map (kR H) = ps ∧ ∀ x ∈ vs, ∃ t, x = V.ref t ∧ H t = some (.tup [.int (kR H x).1, .int (kR H x).2])
  | _, _, .nil => ⟨rfl, fun _ h => absurd h List.not_mem_nil⟩
  | _, _, .cons (t := t) (a := a) (l := l) h r => by
    obtain ⟨e1, e2⟩ := r.map
    have ek : kR H (.ref t) = (a, l) := by simp only [kR, h]
    refine ⟨by rw [List.map_cons, e1, ek], fun x hx => ?_⟩
    rcases List.mem_cons.mp hx with y | y
    · subst y; exact ⟨t, rfl, by rw [ek]; exact h⟩
    · exact e2 x y
theorem HeldV.len {H : Hp} : ∀ {vs : List V} {ps : List Rec}, HeldV H vs ps → vs.length = ps.length
  | _, _, .nil => rfl
  | _, _, .cons _ t => by rw [List.length_cons, List.length_cons, t.len]
theorem srtd_le {k : V → Int × Int} {ys : List V} (h : SrtO.Srtd (ltP k) ys) : (ys.map k).Pairwise (fun p q => p.1 ≤ q.1) := by
  rw [List.pairwise_map]
  refine List.Pairwise.imp (fun {x y} h => ?_) h
  have := SrtO.lexB_no.mp h
  omega
section
variable {P : Program} {w : World} {K : PySem.W.Frag} {mg : Str → Option Value} {base : Heap}
theorem ok_ro {f fR CP : Addr} {fd dR : FuncData} (F : Fun K "rooms_of" "rooms_of" sRo f fd) (RU : FRu K mg fR dR) (OR : FnOk P w K mg base CX0 1 fR dR ["number", "unit"] spRu) (O : ORul K CP) (T : Gv mg) : FnOk P w K mg base CX0 2 f fd ["rules", "row"] (spRo CP) := by
  refine F.ok scRo (fun vs H Q E h => ?_) (fun cdv A outer s H vs Q E hr h => ?_)
  · obtain ⟨x, ta, r, rs, rfl, _⟩ := h
    rfl
  · obtain ⟨x, ta, r, rs, rfl, ⟨dx, hx⟩, R, ⟨xs, hta, rv⟩, S, k⟩ := h
    refine ⟨_, (pss_one (ps_ret (pe_callB (cr_sum rfl) (by rfl) T.sum (by decide +kernel) (pa_cons (pe_lc (own := [("record", 2)]) (g := (gName 2)) (by rfl) scRo.nd (pi_tup (pv 1)) (blkOk_by (N := NRo) (sc := defScope sRo) (by decide +kernel)) (fun _ _ _ _ _ => (pg_name (i := 2) scRo.nd rfl (.inl rfl))) (fun _ _ _ _ _ => (pts_one (pt_cmpR op_notN (pv 2) pe_non (nomark _)))) (fun _ _ _ _ _ => (pe_call OR hr rfl RU.g RU.u.kp RU.b .nil pass0 (pa_cons (pe_ix (r := rIxT K) ix_tup (pv 2) pe_int (fun _ _ => rfl)) (pa_cons (pe_fldK K rfl (pv 0) rfl) pa_nil))))) pa_nil)))), ?_⟩
    have u0 := R.un0
    have u1 := R.un1
    refine ⟨_, rfl, ta, rfl, ⟨_, SqT.of hta⟩, fun D hD => lc_tup (K := K) (a := ta) (xs := xs) (fun i G => Same H G ∧ G D = some (.lst (((heldR (rs.take i)).map fun p => roomI r.un p.2).map V.int))) ⟨same_new hD, upd_same⟩ (fun i G _ ⟨sG, _⟩ => SqT.of (sG _ _ hta)) ?_ ?_⟩
    · rintro i y G hi ⟨sG, hG⟩
      obtain ⟨q, hq, hy⟩ := rv.get hi
      have hi' := (List.getElem?_eq_some_iff.mp hq).1
      have ln := S.len
      have lh := held_len (rs.take i)
      rw [List.length_take] at lh
      refine ⟨rfl, _, rfl, rfl, _, rfl, ?_⟩
      cases hy with
      | non =>
        refine iteNS rfl ⟨sG, ?_⟩
        rw [held_take_none hq]; exact hG
      | @rc t a l ht =>
        refine iteNN (fun z => nomatch z) ?_
        have nm := S.num _ (held_mem hq)
        refine ⟨_, rfl, t, _, 1, .int l, rfl, rfl, SqT.of (sG _ _ ht), atI_nat (j := 1) rfl, _, rfl, x, CP, dx, _, _, rfl, sG _ _ hx, O.cl, O.no "unit" (by decide +kernel), rfl, l, r.un, rfl, u0, by omega, by have := nm.2; omega, ?_⟩
        refine ⟨_, hG, (by rw [List.length_map, List.length_map, sizeLine_eq]; omega), fun c o e => ?_, ?_⟩
        · rw [upd_ne (fun y => by rw [y, hD] at e; cases e)]; exact sG _ _ e
        · rw [upd_same, held_take_some hq, List.map_append, List.map_append]; rfl
    · rintro G ⟨sG, hG⟩
      rw [rv.len, List.take_length] at hG
      exact ⟨D, _, rfl, SqL.of hG, k G sG⟩
theorem chain_cons (un f : Int) (p : Rec) (r : List Rec) : chainB un f (p :: r) = if p.1 < f ∨ p.1 % un ≠ 0 then none else chainB un (endR un p) r := rfl
theorem ok_la {f fR CP : Addr} {fd dR : FuncData} (F : Fun K "are_laid_right" "are_laid_right" sLa f fd) (RU : FRu K mg fR dR) (OR : FnOk P w K mg base CX0 1 fR dR ["number", "unit"] spRu) (O : ORul K CP) (T : Gv mg) : FnOk P w K mg base CX0 2 f fd ["rules", "size", "low", "row"] (spLa CP) := by
  refine F.ok scLa (fun vs H Q E h => ?_) (fun cdv A outer s H vs Q E hr h => ?_)
  · obtain ⟨x, ta, r, sz, low, rs, rfl, _⟩ := h
    rfl
  · obtain ⟨x, ta, r, sz, low, rs, rfl, ⟨dx, hx⟩, R, ⟨xs, hta, rv⟩, S, hls, h1, k⟩ := h
    refine ⟨_, (pss_cons (ps_set (i := 4) scLa.nd rfl (.inl rfl) (pv 2))
 (pss_cons (ps_for PassesOwn.never rfl (pi_list (pe_callB cr_sortedPO (by rfl) T.sorted (by decide +kernel) (pa_cons (pe_lc (own := [("record", 5)]) (g := (gName 5)) (by rfl) scLa.nd (pi_tup (pv 3)) (blkOk_by (N := NLa) (sc := defScope sLa) (by decide +kernel)) (fun _ _ _ _ _ => (pg_name (i := 5) scLa.nd rfl (.inl rfl))) (fun _ _ _ _ _ => (pts_one (pt_cmpR op_notN (pv 5) pe_non (nomark _)))) (fun _ _ _ _ _ => (pv 5))) pa_nil))) (pg_tup rfl (pgs_cons (pg_name (i := 6) scLa.nd rfl (.inl rfl)) (pgs_cons (pg_name (i := 7) scLa.nd rfl (.inl rfl)) pgs_nil))) (pss_cons (ps_if (PW.pt (pw_or (pt_cmpR op_lt (pv 6) (pv 4) (nomark _)) (pw_or1 (pt_cmpR op_ne (pe_op op_modN (pv 6) (pe_fld (pv 0) rfl)) pe_int (nomark _))))) (pss_one (ps_ret pe_bl)) pss_nil)
 (pss_one (ps_set (i := 4) scLa.nd rfl (.inl rfl) (pe_op op_add (pv 6) (pe_call OR hr rfl RU.g RU.u.kp RU.b .nil pass0 (pa_cons (pv 7) (pa_cons (pe_fld (pv 0) rfl) pa_nil))))))))
 (pss_one (ps_ret (pe_cmpR op_le (pv 4) (pv 1) (nomark _)))))), ?_⟩
    have u0 := R.un0
    have u1 := R.un1
    refine ⟨_, rfl, _, rfl, ta, rfl, ⟨_, SqT.of hta⟩, fun D hD => lc_tup (K := K) (a := ta) (xs := xs) (fun i G => Same H G ∧ ∃ acc, G D = some (.lst acc) ∧ HeldV H acc (heldR (rs.take i))) ⟨same_new hD, [], upd_same, .nil⟩ (fun i G _ ⟨sG, _⟩ => SqT.of (sG _ _ hta)) ?_ ?_⟩
    · rintro i y G hi ⟨sG, acc, hG, hv⟩
      obtain ⟨q, hq, hy⟩ := rv.get hi
      have hi' := (List.getElem?_eq_some_iff.mp hq).1
      have ln := S.len
      have lh := held_len (rs.take i)
      rw [List.length_take, ← hv.len] at lh
      refine ⟨rfl, _, rfl, rfl, _, rfl, ?_⟩
      cases hy with
      | non =>
        refine iteNS rfl ⟨sG, acc, hG, ?_⟩
        rw [held_take_none hq]; exact hv
      | @rc t a l ht =>
        refine iteNN (fun z => nomatch z) ?_
        refine ⟨_, rfl, acc, hG, (by rw [sizeLine_eq]; omega), fun c o e => ?_, _, upd_same, ?_⟩
        · rw [upd_ne (fun y => by rw [y, hD] at e; cases e)]; exact sG _ _ e
        · rw [held_take_some hq]; exact hv.snoc ht
    · rintro G ⟨sG, acc, hG, hv⟩
      rw [rv.len, List.take_length] at hv
      obtain ⟨em, er⟩ := (hv.keep (KeepU.of sG)).map
      refine ⟨D, acc, kR G, rfl, SqL.of hG, er, fun ys p hs hb hp => ?_⟩
      have s2 : Same G (upd G p (.lst ys)) := same_new hp
      have hp2 : upd G p (.lst ys) p = some (.lst ys) := upd_same
      generalize upd G p (.lst ys) = G2 at *
      have pm : (ys.map (kR G)).Perm (heldR rs) := by rw [← em]; exact hb.perm.map _
      have so := srtd_le hs
      have er' : ∀ y ∈ ys, ∃ t, y = V.ref t ∧ G t = some (.tup [.int (kR G y).1, .int (kR G y).2]) := fun y hy => er y (hb.perm.mem_iff.mp hy)
      have fin : ∀ b H', b = laidB r.un low sz (ys.map (kR G)) → Same H H' → Q (.bl b) H' := fun b H' e s' => by
        refine k b H' ?_ s'
        rw [e, laid_disj u0 (fun p hp => h1 p (pm.mem_iff.mp hp)) so hls]
        exact Disj.perm pm
      refine ⟨p, rfl, ⟨_, SqL.of hp2⟩, for_list (K := K) (a := p) (xs := ys) (fun i σ H3 => ∃ (fr : Int) (v5 v6 v7 : Option V), σ = [some (.ref x), some (.int sz), some (.int low), some (.ref ta), some (.int fr), v5, v6, v7] ∧ Same G2 H3 ∧ chainB r.un low (ys.map (kR G)) = chainB r.un fr ((ys.drop i).map (kR G)))
        ⟨low, _, _, _, rfl, Same.refl _, rfl⟩ (fun i σ H3 _ ⟨_, _, _, _, _, s3, _⟩ => SqL.of (s3 _ _ hp2)) ?_ ?_⟩
      · rintro i y σ H3 hi ⟨fr, v5, v6, v7, rfl, s3, ec⟩
        obtain ⟨t, rfl, ht⟩ := er' y (List.mem_of_getElem? hi)
        have sA : Same H H3 := sG.trans (s2.trans s3)
        obtain ⟨h1', h2'⟩ := List.getElem?_eq_some_iff.mp hi
        rw [show ys.drop i = .ref t :: ys.drop (i + 1) from by rw [← h2']; exact List.drop_eq_getElem_cons h1', List.map_cons, chain_cons] at ec
        have mem : kR G (.ref t) ∈ heldR rs := pm.mem_iff.mp (List.mem_map_of_mem (List.mem_of_getElem? hi))
        obtain ⟨n1, n2⟩ := S.num _ mem
        have ht3 := s3 _ _ (s2 _ _ ht)
        generalize kR G (.ref t) = q at *
        obtain ⟨a, l⟩ := q
        dsimp only at ht3 n1 n2 ec
        refine ⟨t, _, rfl, SqT.of ht3, rfl, _, _, rfl, _, _, rfl, rfl, ?_⟩
        refine ⟨_, rfl, _, rfl, _, _, rfl, rfl, _, rfl, ?_⟩
        have no : (a < fr ∨ a % r.un ≠ 0) → Q (.bl false) H3 := fun c => fin _ _ (by unfold laidB; rw [ec, if_pos c]) sA
        by_cases c1 : a < fr
        · exact iteY c1 (no (.inl c1))
        refine iteN c1 ?_
        refine ⟨_, rfl, _, rfl, x, CP, dx, _, _, rfl, sA _ _ hx, O.cl, O.no "unit" (by decide +kernel), rfl, _, _, rfl, rfl, (by show r.un ≠ 0; omega), rfl, _, rfl, ?_⟩
        have fm : a.fmod r.un = a % r.un := Int.fmod_eq_emod_of_nonneg a (by omega)
        by_cases c2 : a % r.un = 0
        · refine iteNS (by show V.int (a.fmod r.un) = _; rw [fm, c2]) ?_
          rw [if_neg (by omega)] at ec
          refine ⟨_, rfl, _, rfl, _, rfl, x, CP, dx, _, _, rfl, sA _ _ hx, O.cl, O.no "unit" (by decide +kernel), rfl, l, r.un, rfl, u0, by omega, by omega, _, _, rfl, rfl, ?_⟩
          exact ⟨_, _, _, _, rfl, s3, ec⟩
        · exact iteNN (by show ¬ V.int (a.fmod r.un) = _; rw [fm]; exact fun z => c2 (V.int.inj z)) (no (.inr c2))
      · rintro σ H3 ⟨fr, v5, v6, v7, rfl, s3, ec⟩
        rw [List.drop_length] at ec
        refine ⟨_, rfl, _, rfl, _, _, rfl, rfl, fin _ _ ?_ (sG.trans (s2.trans s3))⟩
        unfold laidB
        rw [ec]; rfl
end
end IdL
namespace IdL
open PySem L2 TL
section
variable {P : Program} {w : World} {K : PySem.W.Frag} {mg : Str → Option Value} {base : Heap}
theorem ok_ir {f fL CP : Addr} {fd dL : FuncData} (F : Fun K "is_right" "is_right" sIr f fd) (LA : FLa K mg fL dL) (OL : FnOk P w K mg base CX0 2 fL dL ["rules", "size", "low", "row"] (spLa CP)) (O : ORul K CP) (T : Gv mg) : FnOk P w K mg base CX0 3 f fd ["rules", "size", "low", "row"] (spIr CP) := by
  refine F.ok scIr (fun vs H Q E h => ?_) (fun cdv A outer s H vs Q E hr h => ?_)
  · obtain ⟨x, ta, r, sz, low, rs, rfl, _⟩ := h
    rfl
  · obtain ⟨x, ta, r, sz, low, rs, rfl, ⟨dx, hx⟩, R, RA, S, h1, k⟩ := h
    refine ⟨_, (pss_cons (ps_set (i := 4) scIr.nd rfl (.inl rfl) (pe_op op_add (pe_fld (pv 0) rfl) (pe_op op_mul (pe_fld (pv 0) rfl) (pe_callB call_len_seq (by rfl) T.len PySem.boot_len (pa_cons (pv 3) pa_nil)))))
 (pss_cons (ps_if (PW.pt (pw_or (pt_not (pt_chain op_le op_le (pv 4) (pv 2) (pv 1))) (pw_or1 (pt_cmpR op_ne (pe_op op_modN (pv 2) (pe_fld (pv 0) rfl)) pe_int (nomark _))))) (pss_one (ps_ret pe_bl)) pss_nil)
 (pss_cons (ps_if (PW.pt (pw_and (pt_cmpR op_notN (pe_fld (pv 0) rfl) pe_non (nomark _)) (pw_and1 (pt_cmpR op_gt (pv 2) (pe_fld (pv 0) rfl) (nomark _))))) (pss_one (ps_ret pe_bl)) pss_nil)
 (pss_one (ps_ret (pe_call OL hr rfl LA.g LA.u.kp LA.b .nil pass0 (pa_cons (pv 0) (pa_cons (pv 1) (pa_cons (pv 2) (pa_cons (pv 3) pa_nil)))))))))), ?_⟩
    have u0 := R.un0
    have l0 := R.sl0
    have l1 := R.sl1
    obtain ⟨xs, hta, rv⟩ := id RA
    have kF : ¬ RightP r sz low rs → Q (.bl false) H := fun n => k _ _ ⟨(fun z => nomatch z), fun z => absurd z n⟩ (Same.refl H)
    refine ⟨_, rfl, x, CP, dx, _, _, rfl, hx, O.cl, O.no "head" (by decide +kernel), rfl, _, rfl, x, CP, dx, _, _, rfl, hx, O.cl, O.no "slot" (by decide +kernel), rfl, _, rfl, ta, xs, rfl, .inr (SqT.of hta), _, _, rfl, rfl, .inl ⟨by omega, by omega⟩, _, _, rfl, rfl, ?_⟩
    rw [rv.len]
    refine ⟨_, rfl, _, rfl, _, _, rfl, rfl, _, rfl, ?_⟩
    have e0 : (fun i j : Int => V.int (i + j)) r.hd (r.sl * ((rs.length : Nat) : Int)) = .int (edgeR r rs.length) := rfl
    by_cases c1 : edgeR r rs.length ≤ low
    · refine iteY c1 ⟨_, rfl, _, _, rfl, rfl, _, rfl, ?_⟩
      by_cases c2 : low ≤ sz
      · refine iteNS c2 ?_
        refine ⟨_, rfl, _, rfl, x, CP, dx, _, _, rfl, hx, O.cl, O.no "unit" (by decide +kernel), rfl, _, _, rfl, rfl, (by show r.un ≠ 0; omega), rfl, _, rfl, ?_⟩
        have fm : low.fmod r.un = low % r.un := Int.fmod_eq_emod_of_nonneg low (by omega)
        by_cases c3 : low % r.un = 0
        · refine iteNS (by show V.int (low.fmod r.un) = _; rw [fm, c3]) ?_
          refine ⟨_, rfl, x, CP, dx, _, _, rfl, hx, O.cl, O.no "most" (by decide +kernel), rfl, rfl, _, rfl, ?_⟩
          have go : (∀ m, r.ms = some m → low ≤ m) → ∀ b H', (b = true ↔ Disj r.un low sz (heldR rs)) → Same H H' → Q (.bl b) H' := fun hm b H' e s' => by
            refine k b H' ?_ s'
            rw [e]
            exact ⟨fun z => ⟨c1, c2, c3, hm, z⟩, fun z => z.2.2.2.2⟩
          cases hm : r.ms with
          | none => exact iteNS rfl ⟨_, rfl, _, rfl, _, rfl, _, rfl, x, ta, r, sz, low, rs, rfl, ⟨dx, hx⟩, R, RA, S, c2, h1, go fun m e => by rw [hm] at e; cases e⟩
          | some m =>
            refine iteNN (fun z => nomatch z) ⟨_, rfl, _, rfl, x, CP, dx, _, _, rfl, hx, O.cl, O.no "most" (by decide +kernel), rfl, low, m, rfl, ?_, _, rfl, ?_⟩
            · show mostV r.ms = _; rw [hm]; rfl
            by_cases c4 : m < low
            · exact iteY c4 (kF fun z => by have := z.2.2.2.1 m hm; omega)
            · exact iteN c4 ⟨_, rfl, _, rfl, _, rfl, _, rfl, x, ta, r, sz, low, rs, rfl, ⟨dx, hx⟩, R, RA, S, c2, h1, go fun m' e => by rw [hm] at e; cases e; omega⟩
        · exact iteNN (by show ¬ V.int (low.fmod r.un) = _; rw [fm]; exact fun z => c3 (V.int.inj z)) (kF fun z => c3 z.2.2.1)
      · exact iteNN c2 (iteT (kF fun z => c2 z.2.1))
    · exact iteN c1 ⟨_, rfl, iteT (iteT (kF fun z => c1 z.1))⟩
theorem ok_rp {f fT fI fU CP : Addr} {fd dT dI dU : FuncData} (F : Fun K "is_right_page" "is_right_page" sRp f fd) (TO : FTol K mg fT dT) (OT : FnOk P w K mg base CX0 4 fT dT ["page"] (spTol K)) (IR : FIr K mg fI dI) (OI : FnOk P w K mg base CX0 3 fI dI ["rules", "size", "low", "row"] (spIr CP))
    (O : ORul K CP) (MU : Meth K CP "in_use" fU) (bU : Binds K dU ["self", "size"] []) (OU : FnOk P w K mg base (CX P w) 4 fU dU ["self", "size"] (spIu CP)) : FnOk P w K mg base CX0 5 f fd ["rules", "page"] (spRp K CP) := by
  refine F.ok scRp (fun vs H Q E h => ?_) (fun cdv A outer s H vs Q E hr h => ?_)
  · obtain ⟨x, r, v, rfl, _⟩ := h
    rfl
  · obtain ⟨x, r, v, rfl, ⟨dx, hx⟩, R, h⟩ := h
    have hr4 := hr.mono (show 4 ≤ 4 by decide)
    have hr3 := hr.mono (show 3 ≤ 4 by decide)
    refine ⟨_, (pss_cons (ps_if (pt_not (pt_val (pe_call OT hr4 rfl TO.g TO.u.kp TO.b .nil pass0 (pa_cons (pv 1) pa_nil)))) (pss_one (ps_ret pe_bl)) pss_nil)
 (pss_cons (ps_asg (pv 1) (pg_tup rfl (pgs_cons (pg_name (i := 2) scRp.nd rfl (.inl rfl)) (pgs_cons (pg_name (i := 3) scRp.nd rfl (.inl rfl)) (pgs_cons (pg_name (i := 4) scRp.nd rfl (.inl rfl)) pgs_nil)))))
 (pss_one (ps_ret (pe_and (pe_meth (pv 0) O.cl MU OU hr bU .nil (passes_call (E := E0) takes0 fun _ _ _ _ z => z) (pa_cons (pv 2) pa_nil)) (pe_one (pe_call OI hr3 rfl IR.g IR.u.kp IR.b .nil pass0 (pa_cons (pv 0) (pa_cons (pv 2) (pa_cons (pv 3) (pa_cons (pv 4) pa_nil))))))))))), ?_⟩
    rcases h with ⟨d, dp, e0, few, k⟩ | ⟨sz, low, rs, PA, S, k⟩
    · refine ⟨_, rfl, v, d, rfl, dp, few, fun H1 s1 => ⟨_, rfl, ?_⟩⟩
      rw [e0]
      exact iteT (k _ s1)
    · refine ⟨_, rfl, v, _, rfl, TD.dp PA.td, fun rs' a b e => ?_, fun H1 s1 => ⟨_, rfl, ?_⟩⟩
      · cases e
        rw [List.length_map]
        exact S.len
      obtain ⟨p, ta, rfl, hp, RA⟩ := PA
      have td := toldD_pg sz low rs
      by_cases hT : ToldP sz rs
      · rw [td.mpr hT]
        refine iteF ⟨_, rfl, p, _, rfl, SqT.of (s1 _ _ hp), rfl, _, _, rfl, _, _, rfl, _, _, rfl, rfl, ?_⟩
        have RA1 := RA.keep (KeepU.of s1)
        refine ⟨_, rfl, x, dx, _, rfl, s1 _ _ hx, rfl, _, rfl, x, r, sz, rfl, R, ⟨dx, s1 _ _ hx⟩, hT.1, _, rfl, ?_⟩
        cases hu : inUse r sz with
        | false => exact iteF (k _ _ ⟨(fun z => nomatch z), fun z => by have y := z.2.1; rw [hu] at y; cases y⟩ s1)
        | true => exact iteT ⟨_, rfl, _, rfl, _, rfl, _, rfl, x, ta, r, sz, low, rs, rfl, ⟨dx, s1 _ _ hx⟩, R, RA1, S, hT.2, fun b H' e s' => k b H' (by rw [e]; exact ⟨fun z => ⟨hT, hu, z⟩, fun z => z.2.2⟩) (s1.trans s')⟩
      · rw [Bool.eq_false_iff.mpr fun z => hT (td.mp z)]
        exact iteT (k _ _ ⟨(fun z => nomatch z), fun z => absurd z.1 hT⟩ s1)
theorem ok_hs {f fF : Addr} {fd dF : FuncData} (F : Fun K "is_held_slot" "is_held_slot" sHs f fd) (FF : FFrom K mg fF dF) (OF : FnOk P w K mg base CX0 2 fF dF ["value", "least"] (spFr K)) (T : Gv mg) : FnOk P w K mg base CX0 3 f fd ["row", "number"] (spHs K) := by
  refine F.ok scHs (fun vs H Q E h => ?_) (fun cdv A outer s H vs Q E hr h => ?_)
  · obtain ⟨ta, v, d, rs, rfl, _⟩ := h
    rfl
  · obtain ⟨ta, v, d, rs, rfl, ⟨xs, hta, rv⟩, dp, k⟩ := h
    refine ⟨_, (pss_one (ps_ret (pe_and (pe_call OF hr rfl FF.g FF.u.kp FF.b .nil pass0 (pa_cons (pv 1) (pa_cons pe_int pa_nil))) (pe_and (pe_cmpR op_lt (pv 1) (pe_callB call_len_seq (by rfl) T.len PySem.boot_len (pa_cons (pv 0) pa_nil)) (nomark _)) (pe_one (pe_cmpR op_notN (pe_ix ix_tup (pv 0) (pv 1) (fun _ _ => rfl)) pe_non (nomark _))))))), ?_⟩
    refine ⟨_, rfl, v, 0, rfl, Dp.kn dp, _, rfl, ?_⟩
    rw [fromV_D dp]
    cases dp with
    | int i =>
      have kk : ∀ b, (decide (0 ≤ i) && (decide (i < (rs.length : Int)) && (rs.getD i.toNat none).isSome)) = b → Q (.bl b) H := fun b e => e ▸ k
      by_cases c1 : 0 ≤ i
      · refine iteY c1 ⟨_, rfl, _, rfl, ta, xs, rfl, .inr (SqT.of hta), _, _, rfl, rfl, _, rfl, ?_⟩
        rw [rv.len]
        rw [decide_eq_true c1] at kk
        by_cases c2 : i < (rs.length : Int)
        · rw [decide_eq_true c2] at kk
          obtain ⟨j, rfl⟩ : ∃ j : Nat, i = j := ⟨i.toNat, by omega⟩
          have hj : j < rs.length := by omega
          have hjx : j < xs.length := by rw [rv.len]; exact hj
          obtain ⟨q, hq, hy⟩ := rv.get (List.getElem?_eq_getElem hjx)
          refine iteY c2 ⟨_, rfl, _, rfl, ta, xs, _, _, rfl, rfl, SqT.of hta, atI_nat (List.getElem?_eq_getElem hjx), rfl, kk _ ?_⟩
          rw [Int.toNat_natCast, List.getD_eq_getElem?_getD, hq]
          generalize xs[j] = y at *
          cases hy <;> rfl
        · rw [decide_eq_false c2] at kk
          exact iteN c2 (kk _ rfl)
      · rw [decide_eq_false c1] at kk
        exact iteN c1 (kk _ rfl)
    | _ => exact iteF k
theorem setL_len {rs : List (Option Rec)} {ds : List PyData} (h : pairL ds = false) : setD rs (.tuple ds) = false := by
  show (pairL ds && _) = false
  rw [h]; rfl
theorem pair_two {ds : List PyData} (h : pairL ds = true) : ∃ i j, ds = [.int i, .int j] := by
  match ds, h with
  | [a, b], h =>
    have h : (wholeD a && wholeD b) = true := h
    obtain ⟨h1, h2⟩ := Bool.and_eq_true_iff.mp h
    cases a <;> first | cases h1 | skip
    cases b <;> first | cases h2 | skip
    exact ⟨_, _, rfl⟩
theorem ok_ha {f fF fH fP : Addr} {fd dF dH dP : FuncData} (F : Fun K "is_handed" "is_handed" sHa f fd) (FF : FFrom K mg fF dF) (OF : FnOk P w K mg base CX0 2 fF dF ["value", "least"] (spFr K)) (HS : FHs K mg fH dH) (OH : FnOk P w K mg base CX0 3 fH dH ["row", "number"] (spHs K))
    (PA : FPa K mg fP dP) (OP : FnOk P w K mg base CX0 2 fP dP ["value"] (spPa K)) : FnOk P w K mg base CX0 4 f fd ["kind", "row", "handed"] (spHa K) := by
  refine F.ok scHa (fun vs H Q E h => ?_) (fun cdv A outer s H vs Q E hr h => ?_)
  · obtain ⟨kd, ta, v, d, rs, rfl, _⟩ := h
    rfl
  · obtain ⟨kd, ta, v, d, rs, rfl, RA, dp, k⟩ := h
    have hr2 := hr.mono (show 2 ≤ 3 by decide)
    refine ⟨_, (pss_cons (ps_if (pt_cmpR op_eq (pv 0) pe_str (nomark _)) (pss_one (ps_ret (pe_call OF hr2 rfl FF.g FF.u.kp FF.b .nil pass0 (pa_cons (pv 2) (pa_cons pe_int pa_nil))))) pss_nil)
 (pss_cons (ps_if (pt_cmpR op_eq (pv 0) pe_str (nomark _)) (pss_one (ps_ret (pe_call OH hr rfl HS.g HS.u.kp HS.b .nil pass0 (pa_cons (pv 1) (pa_cons (pv 2) pa_nil))))) pss_nil)
 (pss_cons (ps_if (pt_cmpR op_eq (pv 0) pe_str (nomark _)) (pss_one (ps_ret (pe_and (pe_call OP hr2 rfl PA.g PA.u.kp PA.b .nil pass0 (pa_cons (pv 2) pa_nil)) (pe_and (pe_call OH hr rfl HS.g HS.u.kp HS.b .nil pass0 (pa_cons (pv 1) (pa_cons (pe_ix ix_tup (pv 2) pe_int (fun _ _ => rfl)) pa_nil))) (pe_one (pe_cmpR op_ge (pe_ix ix_tup (pv 2) pe_int (fun _ _ => rfl)) pe_int (nomark _))))))) pss_nil)
 (pss_one (ps_ret (pe_cmpR op_isN (pv 2) pe_non (nomark _))))))), ?_⟩
    unfold handedD at k
    refine ⟨_, rfl, rfl, _, rfl, ?_⟩
    by_cases c1 : kd = "put"
    · rw [if_pos c1] at k
      refine iteY (congrArg V.str c1) ⟨_, rfl, v, 1, rfl, Dp.kn dp, ?_⟩
      rw [fromV_D dp]
      exact k
    rw [if_neg c1] at k
    refine iteN (strN c1) ⟨_, rfl, rfl, _, rfl, ?_⟩
    by_cases c2 : kd = "strike"
    · rw [if_pos c2] at k
      exact iteY (congrArg V.str c2) ⟨_, rfl, _, rfl, ta, v, d, rs, rfl, RA, dp, k⟩
    rw [if_neg c2] at k
    refine iteN (strN c2) ⟨_, rfl, rfl, _, rfl, ?_⟩
    by_cases c3 : kd = "set"
    · rw [if_pos c3] at k
      refine iteY (congrArg V.str c3) ⟨_, rfl, v, d, rfl, dp, _, rfl, ?_⟩
      cases hp : pairD d with
      | false =>
        refine iteF ?_
        have : setD rs d = false := by
          cases d with
          | tuple ds => exact setL_len hp
          | _ => rfl
        rw [this] at k
        exact k
      | true =>
        refine iteT ?_
        cases dp with
        | @tup a xs ds b c =>
          obtain ⟨i, j, rfl⟩ := pair_two hp
          cases c with
          | cons q1 q2 =>
            cases q2 with
            | cons q2 q3 =>
              cases q3
              refine ⟨_, rfl, _, rfl, a, _, 0, _, rfl, rfl, b, atI_nat (j := 0) rfl, ta, _, _, rs, rfl, RA, q1, _, rfl, ?_⟩
              have e : setD rs (.tuple [.int i, .int j]) = (heldD rs (.int i) && decide (1 ≤ j)) := rfl
              rw [e] at k
              cases he : heldD rs (.int i) with
              | false => rw [he] at k; exact iteF k
              | true =>
                rw [he] at k
                cases q2
                exact iteT ⟨_, rfl, a, _, 1, .int j, rfl, rfl, b, atI_nat (j := 1) rfl, _, _, rfl, rfl, k⟩
        | _ => cases hp
    rw [if_neg c3] at k
    refine iteN (strN c3) ⟨_, rfl, rfl, ?_⟩
    have : decide (v = .non) = isNoneD d := by cases dp <;> rfl
    rw [this]
    exact k
end
end IdL
namespace L2
open PySem PySem.Spec PyProof.Rows
/-! ### what is never come to -/
section
variable {X : Cx}
theorem pe_never {e : Expr} : PE X e (fun _ _ _ => False) := ⟨fun _ _ _ _ _ _ h => h.elim⟩
theorem pt_never {e : Expr} : PT X e (fun _ _ _ => False) := ⟨fun _ _ _ _ _ _ h => h.elim⟩
theorem pw_never {e : Expr} : PW X e (fun _ _ _ => False) := ⟨fun _ _ _ _ _ _ _ h => h.elim⟩
end
end L2
namespace IdL
open PySem L2 TL
/-! ### the desk -/
abbrev sPd : Stmt := inClass (top 19) 0
abbrev sHr : Stmt := top 21
abbrev sRw : Stmt := top 24
abbrev sWr : Stmt := top 25
def NPd : List Str := ["self", "rules", "page", "holes", "own", "length", "slot", "record"]
theorem scPd : FnScope NPd ["self", "rules", "page", "holes", "own", "length"] (defScope sPd) := ⟨rfl, rfl, rfl, by decide +kernel, rfl, by decide +kernel, by decide +kernel⟩
theorem scHr : FnScope ["desk", "slot"] ["desk", "slot"] (defScope sHr) := ⟨rfl, rfl, rfl, by decide +kernel, rfl, by decide +kernel, by decide +kernel⟩
def NRw : List Str := ["desk", "slot", "held", "holds"]
theorem scRw : FnScope NRw ["desk"] (defScope sRw) := ⟨rfl, rfl, rfl, by decide +kernel, rfl, by decide +kernel, by decide +kernel⟩
theorem scWr : FnScope ["desk"] ["desk"] (defScope sWr) := ⟨rfl, rfl, rfl, by decide +kernel, rfl, by decide +kernel, by decide +kernel⟩
structure FHr (K : PySem.W.Frag) (mg : Str → Option Value) (f : Addr) (d : FuncData) : Prop where
  u : Fun K "has_record" "has_record" sHr f d
  b : Binds K d ["desk", "slot"] []
  g : mg "has_record" = some (.ref f)
structure FRw (K : PySem.W.Frag) (mg : Str → Option Value) (f : Addr) (d : FuncData) : Prop where
  u : Fun K "row_of" "row_of" sRw f d
  b : Binds K d ["desk"] []
  g : mg "row_of" = some (.ref f)
structure FWr (K : PySem.W.Frag) (mg : Str → Option Value) (f : Addr) (d : FuncData) : Prop where
  u : Fun K "is_written" "is_written" sWr f d
  b : Binds K d ["desk"] []
  g : mg "is_written" = some (.ref f)
def fldD : List Str := ["rules", "size", "low", "holes", "slots", "ats", "lens", "own", "length", "registers", "laid", "spoilt", "is_changed"]
structure ODk (K : PySem.W.Frag) (C : Addr) : Prop where
  cl : Cls K C
  no : ∀ f ∈ fldD, NoAttr K C f
/-- the record of a slot, by its number -/
def recAt (rs : List (Option Rec)) (j : Int) : Option Rec := if 0 ≤ j then (rs.getD j.toNat none) else none
def AtsK (rs : List (Option Rec)) (ka : List (Key × V)) : Prop := ∀ j : Int, valV ka (.inl j : Key) = (recAt rs j).map fun p => V.int p.1
def LensK (rs : List (Option Rec)) (kl : List (Key × V)) : Prop := ∀ j : Int, valV kl (.inl j : Key) = (recAt rs j).map fun p => V.int p.2
theorem recAt_snoc (rs : List (Option Rec)) (r : Option Rec) (j : Int) : recAt (rs ++ [r]) j = if j = (rs.length : Int) then r else recAt rs j := by
  unfold recAt
  by_cases h0 : 0 ≤ j
  · rw [if_pos h0, if_pos h0]
    obtain ⟨n, rfl⟩ : ∃ n : Nat, j = n := ⟨j.toNat, by omega⟩
    rw [Int.toNat_natCast, List.getD_eq_getElem?_getD, List.getD_eq_getElem?_getD]
    by_cases h1 : n < rs.length
    · rw [List.getElem?_append_left h1, if_neg (by omega)]
    · by_cases h2 : n = rs.length
      · rw [if_pos (by omega), h2, List.getElem?_append_right (Nat.le_refl _), Nat.sub_self]; rfl
      · rw [if_neg (by omega), List.getElem?_eq_none (by rw [List.length_append]; show _ + 1 ≤ n; omega), List.getElem?_eq_none (by omega)]
  · rw [if_neg h0, if_neg h0, if_neg (by omega)]
theorem recAt_nat {rs : List (Option Rec)} {i : Nat} {r : Option Rec} (h : rs[i]? = some r) : recAt rs (i : Int) = r := by
  unfold recAt
  rw [if_pos (by omega), Int.toNat_natCast, List.getD_eq_getElem?_getD, h]; rfl
theorem ats_none {rs : List (Option Rec)} {ka : List (Key × V)} (h : AtsK rs ka) : AtsK (rs ++ [none]) ka := fun j => by
  rw [h j, recAt_snoc]
  split
  · rename_i e
    subst e
    unfold recAt
    rw [if_pos (by omega), Int.toNat_natCast, List.getD_eq_getElem?_getD, List.getElem?_eq_none (Nat.le_refl _)]; rfl
  · rfl
theorem lens_none {rs : List (Option Rec)} {ka : List (Key × V)} (h : LensK rs ka) : LensK (rs ++ [none]) ka := fun j => by
  rw [h j, recAt_snoc]
  split
  · rename_i e
    subst e
    unfold recAt
    rw [if_pos (by omega), Int.toNat_natCast, List.getD_eq_getElem?_getD, List.getElem?_eq_none (Nat.le_refl _)]; rfl
  · rfl
theorem inl_dec (j n : Int) {α : Type} (a b : α) : (if (Sum.inl j : Key) = Sum.inl n then a else b) = if j = n then a else b := by
  by_cases h : j = n
  · rw [if_pos h, if_pos (by rw [h])]
  · rw [if_neg h, if_neg fun z => h (Sum.inl.inj z)]
theorem ats_some {rs : List (Option Rec)} {ka : List (Key × V)} {a l : Int} (h : AtsK rs ka) : AtsK (rs ++ [some (a, l)]) (putK ka (.inl (rs.length : Int)) (.int a)) := fun j => by
  rw [valV_put, recAt_snoc, inl_dec, h j]
  split <;> rfl
theorem lens_some {rs : List (Option Rec)} {ka : List (Key × V)} {a l : Int} (h : LensK rs ka) : LensK (rs ++ [some (a, l)]) (putK ka (.inl (rs.length : Int)) (.int l)) := fun j => by
  rw [valV_put, recAt_snoc, inl_dec, h j]
  split <;> rfl
def dkF (x : Addr) (s low ho sl : Int) (aa la : Addr) (ow le : V) (rg sp : Addr) : List (Str × V) := [("rules", .ref x), ("size", .int s), ("low", .int low), ("holes", .int ho), ("slots", .int sl), ("ats", .ref aa), ("lens", .ref la), ("own", ow), ("length", le), ("registers", .ref rg), ("laid", .non), ("spoilt", .ref sp), ("is_changed", .bl false)]
/-- a desk as a play begins -/
structure DeskAt (H : Hp) (d CD x : Addr) (s low ho : Int) (rs : List (Option Rec)) (ow le : V) : Prop where
  ex : ∃ (dd aa la rg sp : Addr) (ka kl : List (Key × V)), H d = some (.ins CD dd (dkF x s low ho (rs.length : Int) aa la ow le rg sp)) ∧ H aa = some (.dK ka) ∧ H la = some (.dK kl) ∧ H sp = some (.tup []) ∧ AtsK rs ka ∧ LensK rs kl
theorem DeskAt.same {H H' : Hp} (t : Same H H') {d CD x : Addr} {s low ho : Int} {rs : List (Option Rec)} {ow le : V} (h : DeskAt H d CD x s low ho rs ow le) : DeskAt H' d CD x s low ho rs ow le := by
  obtain ⟨dd, aa, la, rg, sp, ka, kl, h1, h2, h3, h4, h5⟩ := h.ex
  exact ⟨dd, aa, la, rg, sp, ka, kl, t _ _ h1, t _ _ h2, t _ _ h3, t _ _ h4, h5⟩
/-- an object that gets its fields; all else stands -/
structure AtF (H G : Hp) (d C dd : Addr) (fs : List (Str × V)) : Prop where
  kp : ∀ a o, a ≠ d → H a = some o → G a = some o
  at_ : G d = some (.ins C dd fs)
theorem AtF.put {H G : Hp} {d C dd : Addr} {fs fs' : List (Str × V)} {f : Str} {v : V} (h : AtF H G d C dd fs) (e : putF f v fs = fs') : AtF H (upd G d (.ins C dd (putF f v fs))) d C dd fs' :=
  ⟨fun a o n e => by rw [upd_ne n]; exact h.kp a o n e, by rw [upd_same, e]⟩
theorem AtF.same {H G G' : Hp} {d C dd : Addr} {fs : List (Str × V)} (h : AtF H G d C dd fs) (s : Same G G') : AtF H G' d C dd fs := ⟨fun a o n e => s _ _ (h.kp a o n e), s _ _ h.at_⟩
theorem AtF.but {H G : Hp} {d C dd q : Addr} {fs : List (Str × V)} {o : HO} (h : AtF H G d C dd fs) (hq : q ≠ d) (hn : H q = none) : AtF H (upd G q o) d C dd fs :=
  ⟨fun a o n e => by rw [upd_ne (fun z => by rw [z, hn] at e; cases e)]; exact h.kp a o n e, by rw [upd_ne hq.symm]; exact h.at_⟩
theorem AtF.free {H G : Hp} {d C dd q : Addr} {fs : List (Str × V)} (h : AtF H G d C dd fs) (hn : G q = none) : q ≠ d ∧ H q = none := by
  have n : q ≠ d := fun z => by rw [z, h.at_] at hn; cases hn
  refine ⟨n, ?_⟩
  cases e : H q with
  | none => rfl
  | some o => rw [h.kp q o n e] at hn; cases hn
structure AtD (H G : Hp) (d C dd : Addr) (fs : List (Str × V)) (aa la : Addr) (ka kl : List (Key × V)) : Prop where
  f : AtF H G d C dd fs
  a : G aa = some (.dK ka)
  l : G la = some (.dK kl)
theorem AtD.put {H G : Hp} {d C dd aa la : Addr} {ka kl : List (Key × V)} {fs fs' : List (Str × V)} {f : Str} {v : V} (h : AtD H G d C dd fs aa la ka kl) (na : aa ≠ d) (nl : la ≠ d) (e : putF f v fs = fs') : AtD H (upd G d (.ins C dd (putF f v fs))) d C dd fs' aa la ka kl :=
  ⟨h.f.put e, by rw [upd_ne na]; exact h.a, by rw [upd_ne nl]; exact h.l⟩
theorem AtD.same {H G G' : Hp} {d C dd aa la : Addr} {ka kl : List (Key × V)} {fs : List (Str × V)} (h : AtD H G d C dd fs aa la ka kl) (s : Same G G') : AtD H G' d C dd fs aa la ka kl := ⟨h.f.same s, s _ _ h.a, s _ _ h.l⟩
def spHr (CD : Addr) : Sp := fun vs H Q _ => ∃ (d x : Addr) (s low ho : Int) (rs : List (Option Rec)) (ow le : V) (j : Int), vs = [.ref d, .int j] ∧ DeskAt H d CD x s low ho rs ow le ∧ Q (.bl (recAt rs j).isSome) H
def spRw (CD : Addr) : Sp := fun vs H Q _ => ∃ (d x : Addr) (s low ho : Int) (rs : List (Option Rec)) (ow le : V), vs = [.ref d] ∧ DeskAt H d CD x s low ho rs ow le ∧ rs.length ≤ 1000 ∧ ∀ ta H', Same H H' → H ta = none → RowAt H' ta rs → Q (.ref ta) H'
def spWr (CD : Addr) : Sp := fun vs H Q _ => ∃ (d x : Addr) (s low ho : Int) (rs : List (Option Rec)) (ow le : V), vs = [.ref d] ∧ DeskAt H d CD x s low ho rs ow le ∧ scal ow .non = true ∧ Q (.bl false) H
def spPd (CD : Addr) : Sp := fun vs H Q _ => ∃ (d dd x : Addr) (pv ow le : V) (s low ho : Int) (rs : List (Option Rec)), vs = [.ref d, .ref x, pv, .int ho, ow, le] ∧ H d = some (.ins CD dd []) ∧ PgAt H pv s low rs ∧ rs.length ≤ 1000 ∧ ∀ H', (∀ a o, a ≠ d → H a = some o → H' a = some o) → DeskAt H' d CD x s low ho rs ow le → Q .non H'
section
variable {P : Program} {w : World} {K : PySem.W.Frag} {mg : Str → Option Value} {base : Heap}
theorem ok_hr {f CD : Addr} {fd : FuncData} (F : Fun K "has_record" "has_record" sHr f fd) (O : ODk K CD) : FnOk P w K mg base CX0 1 f fd ["desk", "slot"] (spHr CD) := by
  refine F.ok scHr (fun vs H Q E h => ?_) (fun cdv A outer s H vs Q E hr h => ?_)
  · obtain ⟨d, x, s, low, ho, rs, ow, le, j, rfl, _⟩ := h
    rfl
  · obtain ⟨d, x, s, low, ho, rs, ow, le, j, rfl, D, k⟩ := h
    have hu := hu_of hr
    refine ⟨_, (pss_one (ps_ret (pe_and (pe_cmp (pc_din hu (pv 1) (pe_fld (pv 0) rfl))) (pe_one (pe_cmp (pc_din hu (pv 1) (pe_fld (pv 0) rfl))))))), ?_⟩
    obtain ⟨dd, aa, la, rg, sp, ka, kl, h1, h2, h3, h4, h5, h6⟩ := D.ex
    refine ⟨_, rfl, _, rfl, d, CD, dd, _, _, rfl, h1, O.cl, O.no "ats" (by decide +kernel), rfl, aa, _, rfl, DGet.k (k := Sum.inl j) h2, _, rfl, ?_⟩
    rw [h5 j]
    cases e : recAt rs j with
    | none =>
      rw [e] at k
      exact iteF k
    | some p =>
      rw [e] at k
      refine iteT ⟨_, rfl, _, rfl, d, CD, dd, _, _, rfl, h1, O.cl, O.no "lens" (by decide +kernel), rfl, la, _, rfl, DGet.k (k := Sum.inl j) h3, ?_⟩
      rw [h6 j, e]
      exact k
theorem recAt_take {rs : List (Option Rec)} {i : Nat} {r : Option Rec} (h : rs[i]? = some r) : rs.take (i + 1) = rs.take i ++ [r] := by
  rw [List.take_add_one, h]; rfl
theorem ok_rw {f fH CD : Addr} {fd dH : FuncData} (F : Fun K "row_of" "row_of" sRw f fd) (HR : FHr K mg fH dH) (OH : FnOk P w K mg base CX0 1 fH dH ["desk", "slot"] (spHr CD)) (O : ODk K CD) (T : Gv mg) : FnOk P w K mg base CX0 2 f fd ["desk"] (spRw CD) := by
  refine F.ok scRw (fun vs H Q E h => ?_) (fun cdv A outer s H vs Q E hr h => ?_)
  · obtain ⟨d, x, s, low, ho, rs, ow, le, rfl, _⟩ := h
    rfl
  · obtain ⟨d, x, s, low, ho, rs, ow, le, rfl, DA, few, k⟩ := h
    have hu := hu_of hr
    refine ⟨_, (pss_cons (ps_setLc (i := 2) (own := [("slot", 1)]) (g := (gName 1)) (by rfl) scRw.nd rfl rfl (sw_true rfl rfl rfl (by decide +kernel)) (pi_range1 (by rfl) T.range (pa_cons (pe_fld (pv 0) rfl) pa_nil)) (blkOk_by (N := NRw) (sc := defScope sRw) (by decide +kernel)) (fun _ _ _ _ _ => (pg_name (i := 1) scRw.nd rfl (.inl rfl))) (fun _ _ _ _ _ => pts_nil) (fun _ _ _ _ _ => (pe_call OH hr rfl HR.g HR.u.kp HR.b .nil pass0 (pa_cons (pv 0) (pa_cons (pv 1) pa_nil)))))
 (pss_one (ps_ret (pe_callTy call_tuple_of (by rfl) T.tuple (by decide +kernel) (pa_cons (pe_lc (own := [("slot", 1), ("holds", 3)]) (g := (gTup K 2 (gCons (gName 1) (gCons (gName 3) gNil)))) (by rfl) scRw.nd (pi_enum (by rfl) T.enum (pa_cons (pv 2) pa_nil)) (blkOk_by (N := NRw) (sc := defScope sRw) (by decide +kernel)) (fun _ _ _ _ _ => (pg_tup rfl (pgs_cons (pg_name (i := 1) scRw.nd rfl (.inl rfl)) (pgs_cons (pg_name (i := 3) scRw.nd rfl (.inl rfl)) pgs_nil)))) (fun _ _ _ _ _ => pts_nil) (fun _ _ _ _ _ => (pe_cut (pe_ifExp (pt_val (pv 3)) (pe_tup (pa_cons (pe_dget hu (pe_fldK K rfl (pv 0) rfl) (pv 1) (fun _ _ => rfl)) (pa_cons (pe_dget hu (pe_fldK K rfl (pv 0) rfl) (pv 1) (fun _ _ => rfl)) pa_nil))) pe_non)))) pa_nil))))), ?_⟩
    obtain ⟨dd, aa, la, rg, sp, ka, kl, h1, h2, h3, h4, h5, h6⟩ := DA.ex
    refine ⟨_, rfl, d, CD, dd, _, _, rfl, h1, O.cl, O.no "slots" (by decide +kernel), rfl, ?_⟩
    refine ⟨(rs.length : Int), rfl, by omega, by omega, fun D hD => lc_range (lo := 0) (n := rs.length) (fun i G => Same H G ∧ G D = some (.lst ((rs.take i).map fun r => V.bl r.isSome))) ⟨same_new hD, upd_same⟩ ?_ ?_⟩
    · rintro i G hi ⟨sG, hG⟩
      obtain ⟨r, hri⟩ : ∃ r, rs[i]? = some r := ⟨rs[i], List.getElem?_eq_getElem hi⟩
      refine ⟨rfl, _, rfl, _, rfl, d, x, s, low, ho, rs, ow, le, _, rfl, DA.same sG, ?_⟩
      rw [show (0 : Int) + (i : Int) = (i : Int) from by omega, recAt_nat hri]
      refine ⟨_, hG, (by rw [List.length_map, List.length_take, sizeLine_eq]; omega), fun c o e => ?_, ?_⟩
      · rw [upd_ne (fun y => by rw [y, hD] at e; cases e)]; exact sG _ _ e
      · rw [upd_same, recAt_take hri, List.map_append]; rfl
    · rintro G ⟨sG, hG⟩
      rw [List.take_length] at hG
      refine ⟨_, rfl, D, _, rfl, SqL.of hG, fun D2 hD2 => lc_it walk_enum (fun i G' => Same G G' ∧ ∃ xs, G' D2 = some (.lst xs) ∧ RecsV G' xs (rs.take i)) ⟨same_new hD2, [], upd_same, .nil⟩ (fun i G' _ ⟨sG', _⟩ => SqL.of (sG' _ _ hG)) ?_ ?_⟩
      · rintro i y G2 G3 hi ⟨s2, xs, hx2, rv⟩ ⟨T0, xi, yi, rfl, hT, rfl, e1, e2⟩
        have s4 : Same G2 _ := same_new (o := .tup [xi, yi]) hT
        have hT4 : upd G2 T0 (.tup [xi, yi]) T0 = some (.tup [xi, yi]) := upd_same
        generalize upd G2 T0 (.tup [xi, yi]) = G4 at *
        cases e1
        rw [List.length_map] at hi
        obtain ⟨r, hri⟩ : ∃ r, rs[i]? = some r := ⟨rs[i], List.getElem?_eq_getElem hi⟩
        have e2 : (rs.map fun r => V.bl r.isSome)[i]? = some yi := e2
        rw [List.getElem?_map, hri] at e2
        cases e2
        refine ⟨T0, _, rfl, SqT.of hT4, rfl, _, _, rfl, _, _, rfl, rfl, rfl, ?_⟩
        have s04 := sG.trans (s2.trans s4)
        have lx : xs.length ≤ 1000 := by rw [rv.len, List.length_take]; omega
        refine ⟨fun v G' => Same G4 G' ∧ RecV G' v r, ?_, ?_⟩
        · refine ⟨_, rfl, _, rfl, ?_⟩
          cases r with
          | none => exact iteF ⟨Same.refl _, .non⟩
          | some p =>
            obtain ⟨a, l⟩ := p
            have gA : DGet G4 aa (.int (i : Int)) (some (.int a)) := by
              have := DGet.k (k := (Sum.inl (i : Int) : Key)) (s04 _ _ h2)
              rw [h5, recAt_nat hri] at this
              exact this
            have gL : DGet G4 la (.int (i : Int)) (some (.int l)) := by
              have := DGet.k (k := (Sum.inl (i : Int) : Key)) (s04 _ _ h3)
              rw [h6, recAt_nat hri] at this
              exact this
            exact iteT ⟨_, rfl, d, CD, dd, _, _, rfl, s04 _ _ h1, O.cl, O.no "ats" (by decide +kernel), rfl, _, rfl, aa, .int a, rfl, gA, _, rfl, d, CD, dd, _, _, rfl, s04 _ _ h1, O.cl, O.no "lens" (by decide +kernel), rfl, _, rfl, la, .int l, rfl, gL, (by show 2 ≤ sizeLine; decide), fun t ht => ⟨same_new ht, .rc upd_same⟩⟩
        · rintro v G5 ⟨s5, hv⟩
          have s25 := s4.trans s5
          refine ⟨xs, s25 _ _ hx2, (by rw [sizeLine_eq]; omega), fun c o e => ?_, _, upd_same, ?_⟩
          · rw [upd_ne (fun y => by rw [y, hD2] at e; cases e)]; exact s25 _ _ (s2 _ _ e)
          · have ku : KeepU G5 (upd G5 D2 (.lst (xs ++ [v]))) := KeepU.lst (s25 _ _ hx2)
            rw [recAt_take hri]
            exact (rv.keep ((KeepU.of s25).trans ku)).app (.cons (hv.keep ku) .nil)
      · rintro G2 ⟨s2, xs, hx2, rv⟩
        rw [List.length_map, List.take_length] at rv
        refine ⟨D2, xs, rfl, .inl ⟨SqL.of hx2, fun t ht => ?_⟩⟩
        have s3 : Same G2 (upd G2 t (.tup xs)) := same_new ht
        have sA := sG.trans s2
        refine k t _ (sA.trans s3) ?_ ⟨xs, upd_same, rv.keep (KeepU.of s3)⟩
        exact sA.free ht
theorem ok_wr {f CD : Addr} {fd : FuncData} (F : Fun K "is_written" "is_written" sWr f fd) (O : ODk K CD) : FnOk P w K mg base CX0 1 f fd ["desk"] (spWr CD) := by
  refine F.ok scWr (fun vs H Q E h => ?_) (fun cdv A outer s H vs Q E hr h => ?_)
  · obtain ⟨d, x, s, low, ho, rs, ow, le, rfl, _⟩ := h
    rfl
  · obtain ⟨d, x, s, low, ho, rs, ow, le, rfl, DA, so, k⟩ := h
    refine ⟨_, (pss_one (ps_ret (pe_and (pe_cmpR op_notN (pe_fld (pv 0) rfl) pe_non (nomark _)) (pe_and (pe_cmpR op_notN (pe_fld (pv 0) rfl) pe_non (nomark _)) (pe_one pe_never))))), ?_⟩
    obtain ⟨dd, aa, la, rg, sp, ka, kl, h1, h2, h3, h4, h5, h6⟩ := DA.ex
    refine ⟨_, rfl, d, CD, dd, _, _, rfl, h1, O.cl, O.no "own" (by decide +kernel), rfl, rfl, _, rfl, ?_⟩
    by_cases c : ow = .non
    · exact iteNS c k
    · refine iteNN c ⟨_, rfl, d, CD, dd, _, _, rfl, h1, O.cl, O.no "laid" (by decide +kernel), rfl, rfl, _, rfl, iteNS rfl k⟩
theorem ok_pd {f CD : Addr} {fd : FuncData} (F : Fun K "__init__" "PageDesk.__init__" sPd f fd) (O : ODk K CD) (T : Gv mg) : FnOk P w K mg base CX0 1 f fd ["self", "rules", "page", "holes", "own", "length"] (spPd CD) := by
  refine F.ok scPd (fun vs H Q E h => ?_) (fun cdv A outer s H vs Q E hr h => ?_)
  · obtain ⟨d, dd, x, pg, ow, le, s, low, ho, rs, rfl, _⟩ := h
    rfl
  · obtain ⟨d, dd, x, pg, ow, le, s, low, ho, rs, rfl, hd, PA, few, k⟩ := h
    have hu := hu_of hr
    refine ⟨_, (pss_cons (ps_fld (pv 0) (pv 1) rfl)
 (pss_cons (ps_fld (pv 0) (pe_ix ix_tup (pv 2) pe_int (fun _ _ => rfl)) rfl)
 (pss_cons (ps_fld (pv 0) (pe_ix ix_tup (pv 2) pe_int (fun _ _ => rfl)) rfl)
 (pss_cons (ps_fld (pv 0) (pv 3) rfl)
 (pss_cons (ps_fld (pv 0) (pe_callB call_len_seq (by rfl) T.len PySem.boot_len (pa_cons (pe_ix ix_tup (pv 2) pe_int (fun _ _ => rfl)) pa_nil)) rfl)
 (pss_cons (ps_fld (pv 0) pe_dnewK rfl)
 (pss_cons (ps_fld (pv 0) pe_dnewK rfl)
 (pss_cons (ps_for PassesOwn.never rfl (pi_enumT (by rfl) T.enum (pa_cons (pe_ix ix_tup (pv 2) pe_int (fun _ _ => rfl)) pa_nil)) (pg_tup rfl (pgs_cons (pg_name (i := 6) scPd.nd rfl (.inl rfl)) (pgs_cons (pg_name (i := 7) scPd.nd rfl (.inl rfl)) pgs_nil))) (pss_one (ps_if (pt_cmpR op_notN (pv 7) pe_non (nomark _)) (pss_cons (ps_dput hu (pe_fld (pv 0) rfl) (pv 6) (pe_ix ix_tup (pv 7) pe_int (fun _ _ => rfl)) rfl)
 (pss_one (ps_dput hu (pe_fld (pv 0) rfl) (pv 6) (pe_ix ix_tup (pv 7) pe_int (fun _ _ => rfl)) rfl))) pss_nil)))
 (pss_cons (ps_fld (pv 0) (pv 4) rfl)
 (pss_cons (ps_fld (pv 0) (pv 5) rfl)
 (pss_cons (ps_fld (pv 0) (pe_disp (pps_cons pe_str pe_int (pps_cons pe_str pe_int (pps_cons pe_str pe_int pps_nil))) (by rfl) (by rfl) (fun z => by cases z) (by decide)) rfl)
 (pss_cons (ps_fld (pv 0) pe_non rfl)
 (pss_cons (ps_fld (pv 0) (pe_tup pa_nil) rfl)
 (pss_one (ps_fld (pv 0) pe_bl rfl))))))))))))))), ?_⟩
    obtain ⟨p, ta, rfl, hp, xs, hx, rv⟩ := PA
    have np : p ≠ d := fun z => by rw [z, hd] at hp; cases hp
    have nt : ta ≠ d := fun z => by rw [z, hd] at hx; cases hx
    have F := fun (aa la rg sp : Addr) => dkF x s low ho (rs.length : Int) aa la ow le rg sp
    have A0 : AtF H H d CD dd [] := ⟨fun _ _ _ e => e, hd⟩
    refine ⟨_, rfl, _, rfl, d, CD, dd, [], rfl, hd, O.cl, O.no "rules" (by decide +kernel), by decide, ?_⟩
    have A1 := A0.put (f := "rules") (v := .ref x) (fs' := (dkF x s low ho (rs.length : Int) d d ow le d d).take 1) rfl
    generalize upd H d _ = G1 at *
    have hp1 := A1.kp _ _ np hp
    have hx1 := A1.kp _ _ nt hx
    refine ⟨_, rfl, p, _, 0, .int s, rfl, rfl, SqT.of hp1, atI_nat (j := 0) rfl, _, rfl, d, CD, dd, _, rfl, A1.at_, O.cl, O.no "size" (by decide +kernel), (by show 1 < 1000; decide), ?_⟩
    have A2 := A1.put (f := "size") (v := .int s) (fs' := (dkF x s low ho (rs.length : Int) d d ow le d d).take 2) (by kernel_rfl)
    generalize upd G1 d _ = G2 at *
    have hp2 := A2.kp _ _ np hp
    refine ⟨_, rfl, p, _, 1, .int low, rfl, rfl, SqT.of hp2, atI_nat (j := 1) rfl, _, rfl, d, CD, dd, _, rfl, A2.at_, O.cl, O.no "low" (by decide +kernel), (by show 2 < 1000; decide), ?_⟩
    have A3 := A2.put (f := "low") (v := .int low) (fs' := (dkF x s low ho (rs.length : Int) d d ow le d d).take 3) (by kernel_rfl)
    generalize upd G2 d _ = G3 at *
    refine ⟨_, rfl, _, rfl, d, CD, dd, _, rfl, A3.at_, O.cl, O.no "holes" (by decide +kernel), (by show 3 < 1000; decide), ?_⟩
    have A4 := A3.put (f := "holes") (v := .int ho) (fs' := (dkF x s low ho (rs.length : Int) d d ow le d d).take 4) (by kernel_rfl)
    generalize upd G3 d _ = G4 at *
    have hp4 := A4.kp _ _ np hp
    have hx4 := A4.kp _ _ nt hx
    refine ⟨_, rfl, p, _, 2, .ref ta, rfl, rfl, SqT.of hp4, atI_nat (j := 2) rfl, ta, xs, rfl, .inr (SqT.of hx4), ?_⟩
    rw [rv.len]
    refine ⟨_, rfl, d, CD, dd, _, rfl, A4.at_, O.cl, O.no "slots" (by decide +kernel), (by show 4 < 1000; decide), ?_⟩
    have A5 := A4.put (f := "slots") (v := .int (rs.length : Int)) (fs' := (dkF x s low ho (rs.length : Int) d d ow le d d).take 5) (by kernel_rfl)
    generalize upd G4 d _ = G5 at *
    intro aa haa
    obtain ⟨n6, f6⟩ := A5.free haa
    have A6' := A5.but (o := .dK []) n6 f6
    have a6 : upd G5 aa (.dK []) aa = some (.dK []) := upd_same
    generalize upd G5 aa (.dK []) = G6 at *
    refine ⟨_, rfl, d, CD, dd, _, rfl, A6'.at_, O.cl, O.no "ats" (by decide +kernel), (by show 5 < 1000; decide), ?_⟩
    have A6 := A6'.put (f := "ats") (v := .ref aa) (fs' := (dkF x s low ho (rs.length : Int) aa d ow le d d).take 6) (by kernel_rfl)
    have a7 : upd G6 d (.ins CD dd (putF "ats" (.ref aa) ((dkF x s low ho (rs.length : Int) d d ow le d d).take 5))) aa = some (.dK []) := by rw [upd_ne n6]; exact a6
    generalize upd G6 d _ = G7 at *
    intro la hla
    obtain ⟨n8, f8⟩ := A6.free hla
    have nal : aa ≠ la := fun z => by rw [z, hla] at a7; cases a7
    have A7' := A6.but (o := .dK []) n8 f8
    have l8 : upd G7 la (.dK []) la = some (.dK []) := upd_same
    have a8 : upd G7 la (.dK []) aa = some (.dK []) := by rw [upd_ne nal]; exact a7
    generalize upd G7 la (.dK []) = G8 at *
    refine ⟨_, rfl, d, CD, dd, _, rfl, A7'.at_, O.cl, O.no "lens" (by decide +kernel), (by show 6 < 1000; decide), ?_⟩
    have A8 := A7'.put (f := "lens") (v := .ref la) (fs' := (dkF x s low ho (rs.length : Int) aa la ow le d d).take 7) (by kernel_rfl)
    have l9 : upd G8 d (.ins CD dd (putF "lens" (.ref la) ((dkF x s low ho (rs.length : Int) aa d ow le d d).take 6))) la = some (.dK []) := by rw [upd_ne n8]; exact l8
    have a9 : upd G8 d (.ins CD dd (putF "lens" (.ref la) ((dkF x s low ho (rs.length : Int) aa d ow le d d).take 6))) aa = some (.dK []) := by rw [upd_ne n6]; exact a8
    generalize upd G8 d _ = G9 at *
    have hp9 := A8.kp _ _ np hp
    have hx9 := A8.kp _ _ nt hx
    refine ⟨_, rfl, p, _, 2, .ref ta, rfl, rfl, SqT.of hp9, atI_nat (j := 2) rfl, ta, xs, rfl, SqT.of hx9, for_it walk_enumT (fun i σ G => ∃ (v6 v7 : Option V) (ka kl : List (Key × V)), σ = [some (.ref d), some (.ref x), some (.ref p), some (.int ho), some ow, some le, v6, v7] ∧ AtF H G d CD dd ((dkF x s low ho (rs.length : Int) aa la ow le d d).take 7) ∧ G aa = some (.dK ka) ∧ G la = some (.dK kl) ∧ AtsK (rs.take i) ka ∧ LensK (rs.take i) kl ∧ ka.length ≤ i ∧ kl.length ≤ i)
      ⟨none, none, [], [], rfl, A8, a9, l9, (fun j => by unfold recAt; split <;> rfl), (fun j => by unfold recAt; split <;> rfl), Nat.le_refl _, Nat.le_refl _⟩ (fun i σ G _ ⟨_, _, _, _, _, A, _⟩ => SqT.of (A.kp _ _ nt hx)) ?_ ?_⟩
    · rintro i y σ G G' hi ⟨v6, v7, ka, kl, rfl, A, ha, hl, ak, lk, la1, la2⟩ ⟨T0, xi, yi, rfl, hT, rfl, e1, e2⟩
      have s4 : Same G _ := same_new (o := .tup [xi, yi]) hT
      have hT4 : upd G T0 (.tup [xi, yi]) T0 = some (.tup [xi, yi]) := upd_same
      generalize upd G T0 (.tup [xi, yi]) = GT at *
      cases e1
      obtain ⟨r, hri, hy⟩ := rv.get (show xs[i]? = some yi from e2)
      have hi' := (List.getElem?_eq_some_iff.mp hri).1
      have AT := A.same s4
      have haT := s4 _ _ ha
      have hlT := s4 _ _ hl
      refine ⟨T0, _, rfl, SqT.of hT4, rfl, _, _, rfl, _, _, rfl, rfl, ?_⟩
      refine ⟨_, rfl, rfl, _, rfl, ?_⟩
      rw [recAt_take hri]
      have li : (rs.take i).length = i := by rw [List.length_take]; omega
      cases hy with
      | non => exact iteNS rfl ⟨_, _, ka, kl, rfl, AT, haT, hlT, ats_none ak, lens_none lk, by omega, by omega⟩
      | @rc t a l ht =>
        have nT : t ≠ d := fun z => by rw [z, hd] at ht; cases ht
        refine iteNN (fun z => nomatch z) ?_
        refine ⟨_, rfl, t, _, 0, .int a, rfl, rfl, SqT.of (AT.kp _ _ nT ht), atI_nat (j := 0) rfl, _, rfl, d, CD, dd, _, _, rfl, AT.at_, O.cl, O.no "ats" (by decide +kernel), rfl, _, rfl, aa, _, rfl, DPut.k (k := Sum.inl (i : Int)) haT (by rw [sizeLine_eq]; omega), ?_⟩
        have B1 := AT.but (o := .dK (putK ka (.inl (i : Int)) (.int a))) n6 f6
        have b1 : upd GT aa (.dK (putK ka (.inl (i : Int)) (.int a))) aa = some (.dK (putK ka (.inl (i : Int)) (.int a))) := upd_same
        have b2 : upd GT aa (.dK (putK ka (.inl (i : Int)) (.int a))) la = some (.dK kl) := by rw [upd_ne nal.symm]; exact hlT
        have lp1 := put_len ka (.inl (i : Int)) (.int a)
        generalize upd GT aa (.dK (putK ka (.inl (i : Int)) (.int a))) = GU at *
        refine ⟨_, rfl, t, _, 1, .int l, rfl, rfl, SqT.of (B1.kp _ _ nT ht), atI_nat (j := 1) rfl, _, rfl, d, CD, dd, _, _, rfl, B1.at_, O.cl, O.no "lens" (by decide +kernel), rfl, _, rfl, la, _, rfl, DPut.k (k := Sum.inl (i : Int)) b2 (by rw [sizeLine_eq]; omega), ?_⟩
        have lp2 := put_len kl (.inl (i : Int)) (.int l)
        have q1 := ats_some (a := a) (l := l) ak
        have q2 := lens_some (a := a) (l := l) lk
        rw [li] at q1 q2
        exact ⟨_, _, _, _, rfl, B1.but n8 f8, by rw [upd_ne nal]; exact b1, upd_same, q1, q2, by omega, by omega⟩
    · rintro σ G ⟨v6, v7, ka, kl, rfl, A, ha, hl, ak, lk, la1, la2⟩
      rw [rv.len, List.take_length] at ak lk
      have B0 : AtD H G d CD dd ((dkF x s low ho (rs.length : Int) aa la ow le d d).take 7) aa la ka kl := ⟨A, ha, hl⟩
      refine ⟨_, rfl, _, rfl, d, CD, dd, _, rfl, B0.f.at_, O.cl, O.no "own" (by decide +kernel), (by show 7 < 1000; decide), ?_⟩
      have B1 := B0.put n6 n8 (f := "own") (v := ow) (fs' := (dkF x s low ho (rs.length : Int) aa la ow le d d).take 8) (by kernel_rfl)
      generalize upd G d _ = K1 at *
      refine ⟨_, rfl, _, rfl, d, CD, dd, _, rfl, B1.f.at_, O.cl, O.no "length" (by decide +kernel), (by show 8 < 1000; decide), ?_⟩
      have B2 := B1.put n6 n8 (f := "length") (v := le) (fs' := (dkF x s low ho (rs.length : Int) aa la ow le d d).take 9) (by kernel_rfl)
      generalize upd K1 d _ = K2 at *
      intro rg hrg
      have s3 : Same K2 (upd K2 rg (.dK [])) := same_new hrg
      have g3 : upd K2 rg (.dK []) rg = some (.dK []) := upd_same
      refine ⟨g3, [(.inr "a", .int 0), (.inr "b", .int 0), (.inr "c", .int 0)], rfl, (by decide), ?_⟩
      have u3 : upd (upd K2 rg (.dK [])) rg (.dK (mergeK [] [((.inr "a" : Key), V.int 0), (.inr "b", .int 0), (.inr "c", .int 0)])) = upd K2 rg (.dK (mergeK [] [((.inr "a" : Key), V.int 0), (.inr "b", .int 0), (.inr "c", .int 0)])) := upd_bag
      rw [u3]
      have B3 := B2.same (same_new (o := .dK (mergeK [] [((.inr "a" : Key), V.int 0), (.inr "b", .int 0), (.inr "c", .int 0)])) hrg)
      refine ⟨_, rfl, d, CD, dd, _, rfl, B3.f.at_, O.cl, O.no "registers" (by decide +kernel), (by show 9 < 1000; decide), ?_⟩
      have B4 := B3.put n6 n8 (f := "registers") (v := .ref rg) (fs' := (dkF x s low ho (rs.length : Int) aa la ow le rg d).take 10) (by kernel_rfl)
      refine ⟨_, rfl, d, CD, dd, _, rfl, B4.f.at_, O.cl, O.no "laid" (by decide +kernel), (by show 10 < 1000; decide), ?_⟩
      have B5 := B4.put n6 n8 (f := "laid") (v := .non) (fs' := (dkF x s low ho (rs.length : Int) aa la ow le rg d).take 11) (by kernel_rfl)
      refine ⟨Nat.zero_le _, fun sp hsp => ?_⟩
      have B5' := B5.same (same_new (o := .tup []) hsp)
      have nsp : sp ≠ d := (B5.f.free hsp).1
      have h5 : ∀ G : Hp, upd G sp (.tup []) sp = some (.tup []) := fun G => upd_same
      refine ⟨_, rfl, d, CD, dd, _, rfl, B5'.f.at_, O.cl, O.no "spoilt" (by decide +kernel), (by show 11 < 1000; decide), ?_⟩
      have B6 := B5'.put n6 n8 (f := "spoilt") (v := .ref sp) (fs' := (dkF x s low ho (rs.length : Int) aa la ow le rg sp).take 12) (by kernel_rfl)
      refine ⟨_, rfl, d, CD, dd, _, rfl, B6.f.at_, O.cl, O.no "is_changed" (by decide +kernel), (by show 12 < 1000; decide), ?_⟩
      have B7 := B6.put n6 n8 (f := "is_changed") (v := .bl false) (fs' := dkF x s low ho (rs.length : Int) aa la ow le rg sp) (by kernel_rfl)
      exact k _ B7.f.kp ⟨dd, aa, la, rg, sp, ka, kl, B7.f.at_, B7.a, B7.l, by rw [upd_ne nsp, upd_ne nsp, upd_same], ak, lk⟩
end
end IdL
namespace IdL
open PySem L2 TL
/-! ### promises, plays of a code without lines -/
abbrev sHl : Stmt := top 45
abbrev sHo : Stmt := top 46
abbrev sLn : Stmt := top 48
abbrev sOs : Stmt := top 49
abbrev sLo : Stmt := top 50
abbrev sBd : Stmt := top 51
abbrev sBp : Stmt := top 52
abbrev sPf : Stmt := top 85
theorem scHl : FnScope ["kind", "handed"] ["kind", "handed"] (defScope sHl) := ⟨rfl, rfl, rfl, by decide +kernel, rfl, by decide +kernel, by decide +kernel⟩
theorem scHo : FnScope ["kind", "handed"] ["kind", "handed"] (defScope sHo) := ⟨rfl, rfl, rfl, by decide +kernel, rfl, by decide +kernel, by decide +kernel⟩
theorem scLn : FnScope ["row", "slot"] ["row", "slot"] (defScope sLn) := ⟨rfl, rfl, rfl, by decide +kernel, rfl, by decide +kernel, by decide +kernel⟩
theorem scOs : FnScope ["before", "after", "own", "slot"] ["before", "after", "own"] (defScope sOs) := ⟨rfl, rfl, rfl, by decide +kernel, rfl, by decide +kernel, by decide +kernel⟩
theorem scLo : FnScope ["kind", "rules", "page", "handed", "desk", "row"] ["kind", "rules", "page", "handed", "desk"] (defScope sLo) := ⟨rfl, rfl, rfl, by decide +kernel, rfl, by decide +kernel, by decide +kernel⟩
theorem scBd : FnScope ["kind", "rules", "page", "handed", "desk", "row", "found"] ["kind", "rules", "page", "handed", "desk"] (defScope sBd) := ⟨rfl, rfl, rfl, by decide +kernel, rfl, by decide +kernel, by decide +kernel⟩
def NBp : List Str := ["kind", "rules", "page", "handed", "desk", "ended", "found", "promise"]
theorem scBp : FnScope NBp ["kind", "rules", "page", "handed", "desk", "ended"] (defScope sBp) := ⟨rfl, rfl, rfl, by decide +kernel, rfl, by decide +kernel, by decide +kernel⟩
theorem scPf : FnScope ["forms", "jumps", "desk", "lines", "sides", "line", "form", "ahead", "side", "step"] ["forms", "jumps", "desk"] (defScope sPf) := ⟨rfl, rfl, rfl, by decide +kernel, rfl, by decide +kernel, by decide +kernel⟩
structure FHl (K : PySem.W.Frag) (mg : Str → Option Value) (f : Addr) (d : FuncData) : Prop where
  u : Fun K "handed_length" "handed_length" sHl f d
  b : Binds K d ["kind", "handed"] []
  g : mg "handed_length" = some (.ref f)
structure FHo (K : PySem.W.Frag) (mg : Str → Option Value) (f : Addr) (d : FuncData) : Prop where
  u : Fun K "handed_own" "handed_own" sHo f d
  b : Binds K d ["kind", "handed"] []
  g : mg "handed_own" = some (.ref f)
structure FLn (K : PySem.W.Frag) (mg : Str → Option Value) (f : Addr) (d : FuncData) : Prop where
  u : Fun K "length_at" "length_at" sLn f d
  b : Binds K d ["row", "slot"] []
  g : mg "length_at" = some (.ref f)
structure FOs (K : PySem.W.Frag) (mg : Str → Option Value) (f : Addr) (d : FuncData) : Prop where
  u : Fun K "others_stay" "others_stay" sOs f d
  b : Binds K d ["before", "after", "own"] []
  g : mg "others_stay" = some (.ref f)
structure FLo (K : PySem.W.Frag) (mg : Str → Option Value) (f : Addr) (d : FuncData) : Prop where
  u : Fun K "leaves_owed" "leaves_owed" sLo f d
  b : Binds K d ["kind", "rules", "page", "handed", "desk"] []
  g : mg "leaves_owed" = some (.ref f)
structure FBdn (K : PySem.W.Frag) (mg : Str → Option Value) (f : Addr) (d : FuncData) : Prop where
  u : Fun K "breaks_done" "breaks_done" sBd f d
  b : Binds K d ["kind", "rules", "page", "handed", "desk"] []
  g : mg "breaks_done" = some (.ref f)
structure FBp (K : PySem.W.Frag) (mg : Str → Option Value) (f : Addr) (d : FuncData) : Prop where
  u : Fun K "broken_promises" "broken_promises" sBp f d
  b : Binds K d ["kind", "rules", "page", "handed", "desk", "ended"] []
  g : mg "broken_promises" = some (.ref f)
structure FPf (K : PySem.W.Frag) (mg : Str → Option Value) (f : Addr) (d : FuncData) : Prop where
  u : Fun K "play_forms" "play_forms" sPf f d
  b : Binds K d ["forms", "jumps", "desk"] []
  g : mg "play_forms" = some (.ref f)
def spHl : Sp := fun vs H Q _ => ∃ (kd : Str) (v : V), vs = [.str kd, v] ∧ (kd = "pack" ∨ kd = "strike") ∧ Q .non H
def spHo : Sp := fun vs H Q _ => ∃ (kd : Str) (v ow : V), vs = [.str kd, v] ∧ ((kd = "pack" ∧ ow = .non) ∨ (kd = "strike" ∧ ow = v)) ∧ Q ow H
def lenV (rs : List (Option Rec)) (i : Nat) : V := match rs[i]? with
  | some (some p) => .int p.2
  | _ => .non
def spLn : Sp := fun vs H Q _ => ∃ (ta : Addr) (i : Nat) (rs : List (Option Rec)), vs = [.ref ta, .int (i : Int)] ∧ RowAt H ta rs ∧ Q (lenV rs i) H
def spOs : Sp := fun vs H Q _ => ∃ (t1 t2 : Addr) (ow : V) (rs : List (Option Rec)), vs = [.ref t1, .ref t2, ow] ∧ RowAt H t1 rs ∧ RowAt H t2 rs ∧ rs.length ≤ 1000 ∧ (ow = .non ∨ ∃ i, ow = .int i) ∧ Q (.bl true) H
/-- what a play of a code without lines is asked with -/
structure PlA (H : Hp) (CP CD : Addr) (kd : Str) (x d : Addr) (pg : V) (r : Ru) (s low ho : Int) (rs : List (Option Rec)) (ow le : V) : Prop where
  kd : (kd = "pack" ∧ ow = .non) ∨ (kd = "strike" ∧ ∃ j : Nat, ow = .int (j : Int))
  ru : RulesAt H x CP r
  ok : RuOk r
  pg : PgAt H pg s low rs
  sm : SmallR rs
  l1 : ∀ p ∈ heldR rs, 1 ≤ p.2
  dk : DeskAt H d CD x s low ho rs ow le
theorem PlA.same {H H' : Hp} (t : Same H H') {CP CD : Addr} {kd : Str} {x d : Addr} {pg : V} {r : Ru} {s low ho : Int} {rs : List (Option Rec)} {ow le : V} (h : PlA H CP CD kd x d pg r s low ho rs ow le) : PlA H' CP CD kd x d pg r s low ho rs ow le :=
  ⟨h.kd, h.ru.imp fun _ e => t _ _ e, h.ok, h.pg.keep (KeepU.of t), h.sm, h.l1, h.dk.same t⟩
def spLo (CP CD : Addr) : Sp := fun vs H Q _ => ∃ (kd : Str) (x d : Addr) (pg hv : V) (r : Ru) (s low ho : Int) (rs : List (Option Rec)) (ow le : V), vs = [.str kd, .ref x, pg, hv, .ref d] ∧ PlA H CP CD kd x d pg r s low ho rs ow le ∧ ∀ b H', Same H H' → Q (.bl b) H'
def spBd (CP CD : Addr) : Sp := fun vs H Q _ => ∃ (kd : Str) (x d : Addr) (pg hv : V) (r : Ru) (s low ho : Int) (rs : List (Option Rec)) (ow le : V), vs = [.str kd, .ref x, pg, hv, .ref d] ∧ PlA H CP CD kd x d pg r s low ho rs ow le ∧ ∀ p (zs : List Str) H', Same H H' → H' p = some (.lst (zs.map V.str)) → zs.length ≤ 2 → Q (.ref p) H'
def spBp (CP CD : Addr) : Sp := fun vs H Q _ => ∃ (kd : Str) (x d : Addr) (pg hv : V) (r : Ru) (s low ho : Int) (rs : List (Option Rec)) (ow le : V), vs = [.str kd, .ref x, pg, hv, .ref d, .str "done"] ∧ PlA H CP CD kd x d pg r s low ho rs ow le ∧ ∀ v H', Same H H' → Q v H'
/-- forms without lines -/
def spSt0 (K : PySem.W.Frag) : Sp := fun vs H Q _ => ∃ (fa : Addr) (jv : V), vs = [.ref fa, jv, .int 1] ∧ SqT K H fa [] ∧ Q (.int 1) H
def spPf (K : PySem.W.Frag) : Sp := fun vs H Q _ => ∃ (fa : Addr) (jv dv : V), vs = [.ref fa, jv, dv] ∧ SqT K H fa [] ∧ ∀ t l1 l2 H', Same H H' → H' t = some (.tup [.str "done", .ref l1, .ref l2]) → H' l1 = some (.lst []) → H' l2 = some (.lst []) → Q (.ref t) H'
def promL : List Str := ["inside", "whole", "owed", "lawful", "books", "full"]
structure GloPm (K : PySem.W.Frag) (mg : Str → Option Value) (pP : Addr) : Prop where
  g : mg "PROMISES" = some (.ref pP)
  t : KTup K pP (promL.map V.str)
section
variable {P : Program} {w : World} {K : PySem.W.Frag} {mg : Str → Option Value} {base : Heap}
theorem ok_hl {f : Addr} {fd : FuncData} (F : Fun K "handed_length" "handed_length" sHl f fd) : FnOk P w K mg base CX0 1 f fd ["kind", "handed"] spHl := by
  refine F.ok scHl (fun vs H Q E h => ?_) (fun cdv A outer s H vs Q E hr h => ?_)
  · obtain ⟨kd, v, rfl, _⟩ := h
    rfl
  · obtain ⟨kd, v, rfl, hk, k⟩ := h
    refine ⟨_, (pss_cons (ps_if (pt_cmpR op_eq (pv 0) pe_str (nomark _)) (pss_one (ps_ret (pv 1))) pss_nil)
 (pss_one (ps_ret (pe_cut (pe_ifExp (pt_cmpR op_eq (pv 0) pe_str (nomark _)) (pe_ix ix_tup (pv 1) pe_int (fun _ _ => rfl)) pe_non))))), ?_⟩
    have n1 : kd ≠ "put" := by rcases hk with rfl | rfl <;> decide
    have n2 : kd ≠ "set" := by rcases hk with rfl | rfl <;> decide
    exact ⟨_, rfl, rfl, _, rfl, iteN (strN n1) ⟨fun v G => v = .non ∧ G = H, ⟨_, rfl, rfl, _, rfl, iteN (strN n2) ⟨rfl, rfl⟩⟩, fun v G ⟨e1, e2⟩ => by rw [e1, e2]; exact k⟩⟩
theorem ok_ho {f : Addr} {fd : FuncData} (F : Fun K "handed_own" "handed_own" sHo f fd) : FnOk P w K mg base CX0 1 f fd ["kind", "handed"] spHo := by
  refine F.ok scHo (fun vs H Q E h => ?_) (fun cdv A outer s H vs Q E hr h => ?_)
  · obtain ⟨kd, v, ow, rfl, _⟩ := h
    rfl
  · obtain ⟨kd, v, ow, rfl, hk, k⟩ := h
    refine ⟨_, (pss_cons (ps_if (pt_cmpR op_eq (pv 0) pe_str (nomark _)) (pss_one (ps_ret (pv 1))) pss_nil)
 (pss_one (ps_ret (pe_cut (pe_ifExp (pt_cmpR op_eq (pv 0) pe_str (nomark _)) (pe_ix ix_tup (pv 1) pe_int (fun _ _ => rfl)) pe_non))))), ?_⟩
    rcases hk with ⟨rfl, rfl⟩ | ⟨rfl, rfl⟩
    · exact ⟨_, rfl, rfl, _, rfl, iteN (strN (by decide)) ⟨fun v G => v = .non ∧ G = H, ⟨_, rfl, rfl, _, rfl, iteN (strN (by decide)) ⟨rfl, rfl⟩⟩, fun v G ⟨e1, e2⟩ => by rw [e1, e2]; exact k⟩⟩
    · exact ⟨_, rfl, rfl, _, rfl, iteY rfl ⟨_, rfl, k⟩⟩
theorem ok_ln {f : Addr} {fd : FuncData} (F : Fun K "length_at" "length_at" sLn f fd) (T : Gv mg) : FnOk P w K mg base CX0 1 f fd ["row", "slot"] spLn := by
  refine F.ok scLn (fun vs H Q E h => ?_) (fun cdv A outer s H vs Q E hr h => ?_)
  · obtain ⟨ta, i, rs, rfl, _⟩ := h
    rfl
  · obtain ⟨ta, i, rs, rfl, ⟨xs, hta, rv⟩, k⟩ := h
    refine ⟨_, (pss_cons (ps_if (PW.pt (pw_and (pt_cmpR op_lt (pv 1) (pe_callB call_len_seq (by rfl) T.len PySem.boot_len (pa_cons (pv 0) pa_nil)) (nomark _)) (pw_and1 (pt_cmpR op_notN (pe_ix ix_tup (pv 0) (pv 1) (fun _ _ => rfl)) pe_non (nomark _))))) (pss_one (ps_ret (pe_ix ix_tup (pe_ix ix_tup (pv 0) (pv 1) (fun _ _ => rfl)) pe_int (fun _ _ => rfl)))) pss_nil)
 (pss_one (ps_ret pe_non))), ?_⟩
    refine ⟨_, rfl, _, rfl, ta, xs, rfl, .inr (SqT.of hta), _, _, rfl, rfl, _, rfl, ?_⟩
    rw [rv.len]
    unfold lenV at k
    by_cases c : (i : Int) < (rs.length : Int)
    · have hi : i < xs.length := by rw [rv.len]; omega
      obtain ⟨q, hq, hy⟩ := rv.get (List.getElem?_eq_getElem hi)
      rw [hq] at k
      refine iteY c ⟨_, rfl, _, rfl, ta, xs, _, _, rfl, rfl, SqT.of hta, atI_nat (List.getElem?_eq_getElem hi), rfl, _, rfl, ?_⟩
      have eg := List.getElem?_eq_getElem hi
      generalize xs[i] = y at *
      cases hy with
      | non => exact iteNS rfl k
      | @rc t a l ht => exact iteNN (fun z => nomatch z) ⟨_, rfl, _, rfl, ta, xs, _, _, rfl, rfl, SqT.of hta, atI_nat eg, t, _, 1, .int l, rfl, rfl, SqT.of ht, atI_nat (j := 1) rfl, k⟩
    · rw [List.getElem?_eq_none (by omega)] at k
      exact iteN c k
theorem ok_os {f fL : Addr} {fd dL : FuncData} (F : Fun K "others_stay" "others_stay" sOs f fd) (LN : FLn K mg fL dL) (OL : FnOk P w K mg base CX0 1 fL dL ["row", "slot"] spLn) (T : Gv mg) : FnOk P w K mg base CX0 2 f fd ["before", "after", "own"] spOs := by
  refine F.ok scOs (fun vs H Q E h => ?_) (fun cdv A outer s H vs Q E hr h => ?_)
  · obtain ⟨t1, t2, ow, rs, rfl, _⟩ := h
    rfl
  · obtain ⟨t1, t2, ow, rs, rfl, R1, R2, few, ho, k⟩ := h
    refine ⟨_, (pss_cons (ps_for PassesOwn.never rfl (pi_range1 (by rfl) T.range (pa_cons (pe_callB (call_max2 rfl) (by rfl) T.max (by decide +kernel) (pa_cons (pe_callB call_len_seq (by rfl) T.len PySem.boot_len (pa_cons (pv 0) pa_nil)) (pa_cons (pe_callB call_len_seq (by rfl) T.len PySem.boot_len (pa_cons (pv 1) pa_nil)) pa_nil))) pa_nil)) (pg_name (i := 3) scOs.nd rfl (.inl rfl)) (pss_one (ps_if (PW.pt (pw_and (pt_cmpR op_ne (pv 3) (pv 2) (nomark _)) (pw_and1 (pt_cmpR op_ne (pe_call OL hr rfl LN.g LN.u.kp LN.b .nil pass0 (pa_cons (pv 0) (pa_cons (pv 3) pa_nil))) (pe_call OL hr rfl LN.g LN.u.kp LN.b .nil pass0 (pa_cons (pv 1) (pa_cons (pv 3) pa_nil))) (nomark _))))) (pss_one (ps_ret pe_bl)) pss_nil)))
 (pss_one (ps_ret pe_bl))), ?_⟩
    obtain ⟨xs, h1, v1⟩ := id R1
    obtain ⟨ys, h2, v2⟩ := id R2
    refine ⟨_, rfl, t1, xs, rfl, .inr (SqT.of h1), _, rfl, t2, ys, rfl, .inr (SqT.of h2), _, _, rfl, ?_⟩
    rw [v1.len, v2.len]
    have em : (if (rs.length : Int) > (rs.length : Int) then (rs.length : Int) else (rs.length : Int)) = (rs.length : Int) := by split <;> rfl
    rw [em]
    have so : scal (.int 0) ow = true ∧ ∀ i : Int, scal (.int i) ow = true := by
      rcases ho with rfl | ⟨j, rfl⟩ <;> exact ⟨rfl, fun _ => rfl⟩
    refine ⟨(rs.length : Int), rfl, by omega, by omega, for_range (n := rs.length) (fun i σ G => ∃ v : Option V, σ = [some (.ref t1), some (.ref t2), some ow, v] ∧ G = H) ⟨none, rfl, rfl⟩ ?_ ?_⟩
    · rintro i σ G hi ⟨v, rfl, rfl⟩
      refine ⟨_, rfl, _, rfl, so.2 _, _, rfl, ?_⟩
      rw [show (0 : Int) + (i : Int) = (i : Int) from by omega]
      refine ite2 (fun _ => ?_) (fun _ => ⟨_, rfl, rfl⟩)
      refine ⟨_, rfl, _, rfl, t1, i, rs, rfl, R1, _, rfl, _, rfl, t2, i, rs, rfl, R2, ?_⟩
      refine ⟨?_, _, rfl, iteNS rfl ⟨_, rfl, rfl⟩⟩
      unfold lenV
      split <;> rfl
    · rintro σ G ⟨v, rfl, rfl⟩
      exact k
end
end IdL
namespace IdL
open PySem L2 TL
section
variable {P : Program} {w : World} {K : PySem.W.Frag} {mg : Str → Option Value} {base : Heap}
theorem ok_lo {f fR fO fM fL CP CD : Addr} {fd dR dO dM dL : FuncData} (F : Fun K "leaves_owed" "leaves_owed" sLo f fd) (RW : FRw K mg fR dR) (ORW : FnOk P w K mg base CX0 2 fR dR ["desk"] (spRw CD)) (OS : FOs K mg fO dO) (OOS : FnOk P w K mg base CX0 2 fO dO ["before", "after", "own"] spOs)
    (RO : FRo K mg fM dM) (ORO : FnOk P w K mg base CX0 2 fM dM ["rules", "row"] (spRo CP)) (LN : FLn K mg fL dL) (OLN : FnOk P w K mg base CX0 1 fL dL ["row", "slot"] spLn) (OD : ODk K CD) : FnOk P w K mg base CX0 3 f fd ["kind", "rules", "page", "handed", "desk"] (spLo CP CD) := by
  refine F.ok scLo (fun vs H Q E h => ?_) (fun cdv A outer s H vs Q E hr h => ?_)
  · obtain ⟨kd, x, d, pg, hv, r, sz, low, ho, rs, ow, le, rfl, _⟩ := h
    rfl
  · obtain ⟨kd, x, d, pg, hv, r, sz, low, ho, rs, ow, le, rfl, PA, k⟩ := h
    have hr1 := hr.mono (show 1 ≤ 2 by decide)
    refine ⟨_, (pss_cons (ps_set (i := 5) scLo.nd rfl (.inl rfl) (pe_call ORW hr rfl RW.g RW.u.kp RW.b .nil pass0 (pa_cons (pv 4) pa_nil)))
 (pss_cons (ps_if (pt_not (pt_val (pe_call OOS hr rfl OS.g OS.u.kp OS.b .nil pass0 (pa_cons (pe_ix ix_tup (pv 2) pe_int (fun _ _ => rfl)) (pa_cons (pv 5) (pa_cons (pe_fld (pv 4) rfl) pa_nil)))))) (pss_one (ps_ret pe_bl)) pss_nil)
 (pss_cons (ps_if (pt_cmpR op_eq (pv 0) pe_str (nomark _)) (pss_one (ps_ret (pe_cmpR op_eq (pe_op op_add (pe_fld (pv 4) rfl) (pe_call ORO hr rfl RO.g RO.u.kp RO.b .nil pass0 (pa_cons (pv 1) (pa_cons (pv 5) pa_nil)))) (pe_fld (pv 4) rfl) (nomark _)))) pss_nil)
 (pss_cons (ps_if (pt_cmpR op_eq (pv 0) pe_str (nomark _)) (pss_one (ps_ret (pe_cmpR op_isN (pe_call OLN hr1 rfl LN.g LN.u.kp LN.b .nil pass0 (pa_cons (pv 5) (pa_cons (pe_fld (pv 4) rfl) pa_nil))) pe_non (nomark _)))) pss_nil)
 (pss_cons ps_never
 (pss_one ps_never)))))), ?_⟩
    refine ⟨_, rfl, d, x, sz, low, ho, rs, ow, le, rfl, PA.dk, PA.sm.len, fun ta H1 s1 nt RA => ?_⟩
    have PB := PA.same s1
    obtain ⟨p, ra, rfl, hp, RB⟩ := PB.pg
    obtain ⟨dd, aa, la, rg, sp, ka, kl, h1, _⟩ := PB.dk.ex
    have how : ow = .non ∨ ∃ i, ow = .int i := by
      rcases PA.kd with ⟨_, e⟩ | ⟨_, j, e⟩
      · exact .inl e
      · exact .inr ⟨_, e⟩
    refine ⟨_, rfl, p, _, 2, .ref ra, rfl, rfl, SqT.of hp, atI_nat (j := 2) rfl, _, rfl, _, rfl, d, CD, dd, _, _, rfl, h1, OD.cl, OD.no "own" (by decide +kernel), rfl, ra, ta, ow, rs, rfl, RB, RA, PA.sm.len, how, _, rfl, iteF ?_⟩
    refine ⟨_, rfl, rfl, _, rfl, ?_⟩
    rcases PA.kd with ⟨rfl, e⟩ | ⟨rfl, j, e⟩
    · refine iteY rfl ⟨_, rfl, d, CD, dd, _, _, rfl, h1, OD.cl, OD.no "low" (by decide +kernel), rfl, _, rfl, _, rfl, x, ta, r, rs, rfl, PB.ru, PB.ok, RA, PB.sm, fun H2 s2 => ?_⟩
      exact ⟨_, _, rfl, rfl, _, rfl, d, CD, dd, _, _, rfl, s2 _ _ h1, OD.cl, OD.no "size" (by decide +kernel), rfl, rfl, k _ _ (s1.trans s2)⟩
    · refine iteN (strN (by decide)) ⟨_, rfl, rfl, _, rfl, iteY rfl ?_⟩
      exact ⟨_, rfl, _, rfl, d, CD, dd, _, _, rfl, h1, OD.cl, OD.no "own" (by decide +kernel), rfl, ta, j, rs, (by rw [e]; rfl), RA, rfl, k _ _ s1⟩
theorem ok_bdn {f fO fR fI fM CP CD : Addr} {fd dO dR dI dM : FuncData} (F : Fun K "breaks_done" "breaks_done" sBd f fd) (LO : FLo K mg fO dO) (OLO : FnOk P w K mg base CX0 3 fO dO ["kind", "rules", "page", "handed", "desk"] (spLo CP CD)) (RW : FRw K mg fR dR) (ORW : FnOk P w K mg base CX0 2 fR dR ["desk"] (spRw CD))
    (IR : FIr K mg fI dI) (OIR : FnOk P w K mg base CX0 3 fI dI ["rules", "size", "low", "row"] (spIr CP)) (RO : FRo K mg fM dM) (ORO : FnOk P w K mg base CX0 2 fM dM ["rules", "row"] (spRo CP)) (OD : ODk K CD) : FnOk P w K mg base CX0 4 f fd ["kind", "rules", "page", "handed", "desk"] (spBd CP CD) := by
  refine F.ok scBd (fun vs H Q E h => ?_) (fun cdv A outer s H vs Q E hr h => ?_)
  · obtain ⟨kd, x, d, pg, hv, r, sz, low, ho, rs, ow, le, rfl, _⟩ := h
    rfl
  · obtain ⟨kd, x, d, pg, hv, r, sz, low, ho, rs, ow, le, rfl, PA, k⟩ := h
    have hr2 := hr.mono (show 2 ≤ 3 by decide)
    refine ⟨_, (pss_cons (ps_if (pt_not (pt_val (pe_call OLO hr rfl LO.g LO.u.kp LO.b .nil pass0 (pa_cons (pv 0) (pa_cons (pv 1) (pa_cons (pv 2) (pa_cons (pv 3) (pa_cons (pv 4) pa_nil)))))))) (pss_one (ps_ret (pe_lst (pa_cons pe_str pa_nil)))) pss_nil)
 (pss_cons (ps_set (i := 5) scBd.nd rfl (.inl rfl) (pe_call ORW hr2 rfl RW.g RW.u.kp RW.b .nil pass0 (pa_cons (pv 4) pa_nil)))
 (pss_cons (ps_set (i := 6) scBd.nd rfl (.inl rfl) (pe_lst pa_nil))
 (pss_join (ps_if (pt_not (pt_val (pe_call OIR hr rfl IR.g IR.u.kp IR.b .nil pass0 (pa_cons (pv 1) (pa_cons (pe_fld (pv 4) rfl) (pa_cons (pe_fld (pv 4) rfl) (pa_cons (pv 5) pa_nil))))))) (pss_one (ps_expr (pe_bm PySem.F.plainAttrs_list PySem.F.slot_list_append PySem.F.type_list_append mt_append (pv 6) (pa_cons pe_str pa_nil)))) pss_nil)
 (pss_join (ps_if (pt_cmpR op_ne (pe_fld (pv 4) rfl) (pe_op op_sub (pe_op op_sub (pe_fld (pv 4) rfl) (pe_fld (pv 4) rfl)) (pe_call ORO hr2 rfl RO.g RO.u.kp RO.b .nil pass0 (pa_cons (pv 1) (pa_cons (pv 5) pa_nil)))) (nomark _)) (pss_one (ps_expr (pe_bm PySem.F.plainAttrs_list PySem.F.slot_list_append PySem.F.type_list_append mt_append (pv 6) (pa_cons pe_str pa_nil)))) pss_nil)
 (pss_one (ps_ret (pv 6)))))))), ?_⟩
    refine ⟨_, rfl, _, rfl, _, rfl, _, rfl, _, rfl, kd, x, d, pg, hv, r, sz, low, ho, rs, ow, le, rfl, PA, fun b H1 s1 => ⟨_, rfl, ?_⟩⟩
    cases b with
    | false => exact iteT ⟨by decide, fun p hp => k p ["owed"] _ (s1.trans (same_new hp)) upd_same (by decide)⟩
    | true =>
      refine iteF ?_
      have PB := PA.same s1
      refine ⟨_, rfl, d, x, sz, low, ho, rs, ow, le, rfl, PB.dk, PB.sm.len, fun ta H2 s2 nt RA => ?_⟩
      refine ⟨Nat.zero_le _, fun fa hfa => ?_⟩
      have s3 : Same H2 (upd H2 fa (.lst [])) := same_new hfa
      have f3 : upd H2 fa (.lst []) fa = some (.lst ((([] : List Str)).map V.str)) := upd_same
      generalize upd H2 fa (.lst []) = H3 at *
      have s03 := s1.trans (s2.trans s3)
      have PC := PA.same s03
      have RC := RA.keep (KeepU.of s3)
      obtain ⟨dd, aa, la, rg, sp, ka, kl, h1, _⟩ := PC.dk.ex
      have nfa : H fa = none := by
        cases e : H fa with
        | none => rfl
        | some o => rw [s2 _ _ (s1 _ _ e)] at hfa; cases hfa
      refine ⟨fun σ G => ∃ zs : List Str, σ = [some (.str kd), some (.ref x), some pg, some hv, some (.ref d), some (.ref ta), some (.ref fa)] ∧ Same H G ∧ RowAt G ta rs ∧ G fa = some (.lst (zs.map V.str)) ∧ zs.length ≤ 1, ?_, ?_⟩
      · refine ⟨_, rfl, _, rfl, d, CD, dd, _, _, rfl, h1, OD.cl, OD.no "size" (by decide +kernel), rfl, _, rfl, d, CD, dd, _, _, rfl, h1, OD.cl, OD.no "low" (by decide +kernel), rfl, _, rfl, x, ta, r, sz, low, rs, rfl, PC.ru, PC.ok, RC, PC.sm, PC.l1, fun b H4 hb s4 => ⟨_, rfl, ?_⟩⟩
        have f4 := s4 _ _ f3
        have s04 := s03.trans s4
        cases b with
        | true => exact iteF ⟨[], rfl, s04, RC.keep (KeepU.of s4), f4, by decide⟩
        | false =>
          refine iteT ⟨_, rfl, .inl ⟨rfl, _, SqL.of f4⟩, fa, _, _, rfl, rfl, f4, (by rw [sizeLine_eq]; decide), ["lawful"], rfl, fun c o e => ?_, (RC.keep (KeepU.of s4)).keep (KeepU.lst f4), upd_same, by decide⟩
          rw [upd_ne (fun y => by rw [y, nfa] at e; cases e)]
          exact s04 _ _ e
      · rintro σ G ⟨zs, rfl, sG, RG, fG, lz⟩
        have PG := PA.same sG
        obtain ⟨dd, aa, la, rg, sp, ka, kl, h1, _⟩ := PG.dk.ex
        refine ⟨fun σ G => ∃ zs : List Str, σ = [some (.str kd), some (.ref x), some pg, some hv, some (.ref d), some (.ref ta), some (.ref fa)] ∧ Same H G ∧ G fa = some (.lst (zs.map V.str)) ∧ zs.length ≤ 2, ?_, ?_⟩
        · refine ⟨_, rfl, d, CD, dd, _, _, rfl, h1, OD.cl, OD.no "holes" (by decide +kernel), rfl, _, rfl, d, CD, dd, _, _, rfl, h1, OD.cl, OD.no "size" (by decide +kernel), rfl, _, rfl, d, CD, dd, _, _, rfl, h1, OD.cl, OD.no "low" (by decide +kernel), rfl, _, _, rfl, rfl, _, rfl, _, rfl, x, ta, r, rs, rfl, PG.ru, PG.ok, RG, PG.sm, fun H4 s4 => ?_⟩
          have f4 := s4 _ _ fG
          have s04 := sG.trans s4
          refine ⟨_, _, rfl, rfl, rfl, _, rfl, ?_⟩
          refine ite2 (fun _ => ?_) (fun _ => ⟨zs, rfl, s04, f4, by omega⟩)
          refine ⟨_, rfl, .inl ⟨rfl, _, SqL.of f4⟩, fa, _, _, rfl, rfl, f4, (by rw [List.length_map, sizeLine_eq]; omega), zs ++ (["books"] : List Str), rfl, fun c o e => ?_, ?_, ?_⟩
          · rw [upd_ne (fun y => by rw [y, nfa] at e; cases e)]
            exact s04 _ _ e
          · rw [upd_same, List.map_append]; rfl
          · rw [List.length_append]; show _ + 1 ≤ 2; omega
        · rintro σ G ⟨zs, rfl, sG, fG, lz⟩
          exact ⟨_, rfl, k fa zs G sG fG lz⟩
theorem ok_bp {f fB CP CD pP : Addr} {fd dB : FuncData} (F : Fun K "broken_promises" "broken_promises" sBp f fd) (BD : FBdn K mg fB dB) (OBD : FnOk P w K mg base CX0 4 fB dB ["kind", "rules", "page", "handed", "desk"] (spBd CP CD)) (G : GloPm K mg pP) (OD : ODk K CD) (T : Gv mg) : FnOk P w K mg base CX0 5 f fd ["kind", "rules", "page", "handed", "desk", "ended"] (spBp CP CD) := by
  have gP := G.g
  refine F.ok scBp (fun vs H Q E h => ?_) (fun cdv A outer s H vs Q E hr h => ?_)
  · obtain ⟨kd, x, d, pg, hv, r, sz, low, ho, rs, ow, le, rfl, _⟩ := h
    rfl
  · obtain ⟨kd, x, d, pg, hv, r, sz, low, ho, rs, ow, le, rfl, PA, k⟩ := h
    refine ⟨_, (pss_cons (ps_set (i := 6) scBp.nd rfl (.inr rfl) (pe_cut (pe_ifExp (pt_truth (pe_fld (pv 4) rfl) (by intro _; rfl)) (pe_lst (pa_cons pe_str pa_nil)) (pe_lst pa_nil))))
 (pss_join (ps_if (pt_cmpR op_eq (pv 5) pe_str (nomark _)) (pss_one ps_never) (pss_one (ps_if (pt_cmpR op_eq (pv 5) pe_str (nomark _)) (pss_one (ps_set (i := 6) scBp.nd rfl (.inr rfl) (pe_op op_cat (pv 6) (pe_call OBD hr rfl BD.g BD.u.kp BD.b .nil pass0 (pa_cons (pv 0) (pa_cons (pv 1) (pa_cons (pv 2) (pa_cons (pv 3) (pa_cons (pv 4) pa_nil))))))))) (pss_one ps_never))))
 (pss_one (ps_ret (pe_callTy call_tuple_of (by rfl) T.tuple (by decide +kernel) (pa_cons (pe_lc (own := [("promise", 7)]) (g := (gName 7)) (by rfl) scBp.nd (pi_tup (pe_glob rfl gP (v := .ref pP) rfl)) (blkOk_by (N := NBp) (sc := defScope sBp) (by decide +kernel)) (fun _ _ _ _ _ => (pg_name (i := 7) scBp.nd rfl (.inl rfl))) (fun _ _ _ _ _ => (pts_one (pt_cmpR (r := rIn K false) op_in_seq (pv 7) (pv 6) (by rfl)))) (fun _ _ _ _ _ => (pv 7))) pa_nil)))))), ?_⟩
    obtain ⟨dd, aa, la, rg, sp, ka, kl, h1, h2, h3, h4, _⟩ := PA.dk.ex
    refine ⟨fun v G => ∃ p, v = .ref p ∧ Same H G ∧ G p = some (.lst ((([] : List Str)).map V.str)), ?_, ?_⟩
    · refine ⟨_, rfl, d, CD, dd, _, _, rfl, h1, OD.cl, OD.no "spoilt" (by decide +kernel), rfl, ?_⟩
      refine ⟨false, .inr (.inl ⟨[], SqT.of h4, rfl⟩), iteF ⟨Nat.zero_le _, fun p hp => ⟨p, rfl, same_new hp, upd_same⟩⟩⟩
    · rintro v G0 ⟨fp, rfl, s0, hf⟩
      refine ⟨fun σ G => ∃ (q : Addr) (zs : List Str), σ = [some (.str kd), some (.ref x), some pg, some hv, some (.ref d), some (.str "done"), some (.ref q), none] ∧ Same H G ∧ G q = some (.lst (zs.map V.str)) ∧ zs.length ≤ 2, ?_, ?_⟩
      · refine ⟨_, rfl, rfl, _, rfl, iteN (strN (by decide)) ⟨_, rfl, rfl, _, rfl, iteY rfl ?_⟩⟩
        refine ⟨_, rfl, _, rfl, _, rfl, _, rfl, _, rfl, _, rfl, kd, x, d, pg, hv, r, sz, low, ho, rs, ow, le, rfl, PA.same s0, fun p zs H1 s1 hp lz => ?_⟩
        refine ⟨fp, p, _, _, rfl, rfl, s1 _ _ hf, hp, (by rw [List.length_map, sizeLine_eq]; show 0 + _ ≤ _; rw [List.length_map]; omega), fun q hq => ?_⟩
        exact ⟨q, zs, rfl, (s0.trans s1).trans (same_new hq), by rw [upd_same]; rfl, lz⟩
      · rintro σ G1 ⟨q, zs, rfl, s1, hq, lz⟩
        refine ⟨pP, rfl, ⟨_, .inr G.t⟩, fun D hD => lc_tup (K := K) (a := pP) (xs := promL.map V.str) (fun i G' => Same G1 G' ∧ ∃ ws : List Str, G' D = some (.lst (ws.map V.str)) ∧ ws.length ≤ i) ⟨same_new hD, [], upd_same, Nat.le_refl _⟩ (fun i G' _ _ => .inr G.t) ?_ ?_⟩
        · rintro i y G2 hi ⟨s2, ws, hw, lw⟩
          have hi' := (List.getElem?_eq_some_iff.mp hi).1
          have hi6 : i < 6 := hi'
          rw [List.getElem?_map] at hi
          obtain ⟨z, hz, rfl⟩ := Option.map_eq_some_iff.mp hi
          refine ⟨rfl, _, rfl, _, rfl, q, _, rfl, .inl (SqL.of (s2 _ _ hq)), rfl, flat_strs zs, _, rfl, ?_⟩
          refine ite2 (fun _ => ?_) (fun _ => ⟨s2, ws, hw, by omega⟩)
          refine ⟨_, rfl, _, hw, (by rw [List.length_map, sizeLine_eq]; omega), fun c o e => ?_, ws ++ [z], ?_, ?_⟩
          · rw [upd_ne (fun y => by rw [y, hD] at e; cases e)]; exact s2 _ _ e
          · rw [upd_same, List.map_append]; rfl
          · rw [List.length_append]; show _ + 1 ≤ _; omega
        · rintro G2 ⟨s2, ws, hw, lw⟩
          exact ⟨D, _, rfl, .inl ⟨SqL.of hw, fun t ht => k _ _ ((s1.trans s2).trans (same_new ht))⟩⟩
theorem ok_st0 {f : Addr} {fd : FuncData} (F : Fun K "step_on" "step_on" sStep f fd) (T : Gv mg) : FnOk P w K mg base CX0 1 f fd ["forms", "jumps", "line"] (spSt0 K) := by
  refine F.ok scStep (fun vs H Q E h => ?_) (fun cdv A outer s H vs Q E hr h => ?_)
  · obtain ⟨fa, jv, rfl, _⟩ := h
    rfl
  · obtain ⟨fa, jv, rfl, hf, k⟩ := h
    refine ⟨_, (pss_cons (ps_while PassesOwn.never (PW.pt (pw_and (pt_cmpR op_le (pv 2) (pe_callB call_len_seq (by rfl) T.len PySem.boot_len (pa_cons (pv 0) pa_nil)) (nomark _)) (pw_and1 pt_never))) (pss_one ps_never))
 (pss_one (ps_ret (pv 2)))), ?_⟩
    refine ⟨fun m σ G => m = 0 ∧ σ = [some (.ref fa), some jv, some (.int 1)] ∧ G = H, ⟨0, rfl, rfl, rfl⟩, ?_⟩
    rintro m σ G ⟨rfl, rfl, rfl⟩
    exact ⟨_, rfl, _, rfl, fa, [], rfl, .inr hf, _, _, rfl, rfl, _, rfl, iteN (by decide) (iteF ⟨_, rfl, k⟩)⟩
theorem ok_pf0 {f fS : Addr} {fd dS : FuncData} (F : Fun K "play_forms" "play_forms" sPf f fd) (ST : FStep K mg fS dS) (OS : FnOk P w K mg base CX0 1 fS dS ["forms", "jumps", "line"] (spSt0 K)) (T : Gv mg) : FnOk P w K mg base CX0 2 f fd ["forms", "jumps", "desk"] (spPf K) := by
  refine F.ok scPf (fun vs H Q E h => ?_) (fun cdv A outer s H vs Q E hr h => ?_)
  · obtain ⟨fa, jv, dv, rfl, _⟩ := h
    rfl
  · obtain ⟨fa, jv, dv, rfl, hf, k⟩ := h
    refine ⟨_, (pss_cons (ps_set (i := 3) scPf.nd rfl (.inl rfl) (pe_lst pa_nil))
 (pss_cons (ps_set (i := 4) scPf.nd rfl (.inl rfl) (pe_lst pa_nil))
 (pss_cons (ps_set (i := 5) scPf.nd rfl (.inl rfl) (pe_call OS hr rfl ST.g ST.u.kp ST.b .nil pass0 (pa_cons (pv 0) (pa_cons (pv 1) (pa_cons pe_int pa_nil)))))
 (pss_cons (ps_while PassesOwn.never (pt_cmpR op_le (pv 5) (pe_callB call_len_seq (by rfl) T.len PySem.boot_len (pa_cons (pv 0) pa_nil)) (nomark _)) (pss_cons ps_never
 (pss_cons ps_never
 (pss_cons ps_never
 (pss_cons ps_never
 (pss_join ps_never
 (pss_one ps_never)))))))
 (pss_one (ps_ret (pe_tup (pa_cons pe_str (pa_cons (pv 3) (pa_cons (pv 4) pa_nil)))))))))), ?_⟩
    refine ⟨Nat.zero_le _, fun l1 h1 => ?_⟩
    have s1 : Same H (upd H l1 (.lst [])) := same_new h1
    have e1 : upd H l1 (.lst []) l1 = some (.lst []) := upd_same
    generalize upd H l1 (.lst []) = H1 at *
    refine ⟨Nat.zero_le _, fun l2 h2 => ?_⟩
    have s2 : Same H1 (upd H1 l2 (.lst [])) := same_new h2
    have e2 : upd H1 l2 (.lst []) l2 = some (.lst []) := upd_same
    generalize upd H1 l2 (.lst []) = H2 at *
    have s02 := s1.trans s2
    have hf2 := (KeepT.of s02).seq hf
    refine ⟨_, rfl, _, rfl, fa, jv, rfl, hf2, ?_⟩
    refine ⟨fun m σ G => m = 0 ∧ σ = [some (.ref fa), some jv, some dv, some (.ref l1), some (.ref l2), some (.int 1), none, none, none, none] ∧ G = H2, ⟨0, rfl, rfl, rfl⟩, ?_⟩
    rintro m σ G ⟨rfl, rfl, rfl⟩
    refine ⟨_, rfl, _, rfl, fa, [], rfl, .inr hf2, _, _, rfl, rfl, _, rfl, iteN (by decide) ?_⟩
    refine ⟨_, rfl, _, rfl, (by show 3 ≤ sizeLine; decide), fun t ht => ?_⟩
    have s3 : Same G (upd G t (.tup [.str "done", .ref l1, .ref l2])) := same_new ht
    exact k t l1 l2 _ (s02.trans s3) upd_same (s3 _ _ (s2 _ _ e1)) (s3 _ _ e2)
end
end IdL
namespace IdL
open PySem L2 TL
/-! ### plays -/
abbrev sPp : Stmt := inClass (top 87) 0
abbrev sPg5 : Stmt := top 88
theorem scPp : FnScope ["self", "ended", "desk", "lines", "sides", "broken"] ["self", "ended", "desk", "lines", "sides", "broken"] (defScope sPp) := ⟨rfl, rfl, rfl, by decide +kernel, rfl, by decide +kernel, by decide +kernel⟩
def NPg : List Str := ["code", "page", "handed", "rules", "size", "low", "row", "own", "length", "desk", "ended", "lines", "sides", "broken"]
theorem scPg5 : FnScope NPg ["code", "page", "handed"] (defScope sPg5) := ⟨rfl, rfl, rfl, by decide +kernel, rfl, by decide +kernel, by decide +kernel⟩
def fldP : List Str := ["ended", "row", "slots", "low", "holes", "own", "written", "spoilt", "broken", "played", "tested"]
structure OPl (K : PySem.W.Frag) (C : Addr) : Prop where
  cl : Cls K C
  no : ∀ f ∈ fldP, NoAttr K C f
def EndAt (H : Hp) (p CPP : Addr) (z : Str) : Prop := ∃ dx fs, H p = some (.ins CPP dx fs) ∧ fs.lookup (("ended" : Str)) = some (.str z)
def spPp (CPP CD : Addr) : Sp := fun vs H Q _ => ∃ (x dx d l1 l2 rx : Addr) (z : Str) (bv : V) (s low ho : Int) (rs : List (Option Rec)) (ow le : V), vs = [.ref x, .str z, .ref d, .ref l1, .ref l2, bv] ∧ H x = some (.ins CPP dx []) ∧ DeskAt H d CD rx s low ho rs ow le ∧ scal ow .non = true ∧ rs.length ≤ 1000 ∧
  H l1 = some (.lst []) ∧ H l2 = some (.lst []) ∧ ∀ H', (∀ a o, a ≠ x → H a = some o → H' a = some o) → EndAt H' x CPP z → Q .non H'
/-- a code as an object -/
def CodeAt (H : Hp) (c CC : Addr) (kd z : Str) (rx fa : Addr) (jv : V) : Prop := ∃ dx rr an, H c = some (.ins CC dx [("kind", .str kd), ("rules", .ref rx), ("text", .str z), ("rows", rr), ("forms", .ref fa), ("jumps", jv), ("answers", an)])
theorem CodeAt.same {H H' : Hp} (t : Same H H') {c CC : Addr} {kd z : Str} {rx fa : Addr} {jv : V} (h : CodeAt H c CC kd z rx fa jv) : CodeAt H' c CC kd z rx fa jv := by
  obtain ⟨dx, rr, an, e⟩ := h
  exact ⟨dx, rr, an, t _ _ e⟩
structure OCd (K : PySem.W.Frag) (C : Addr) : Prop where
  cl : Cls K C
  no : ∀ f ∈ fldL, NoAttr K C f
/-- an error with one field -/
def errF (C : Addr) (f : Str) (v : V) (H : Hp) (E : XK) : Prop := ∀ d H', Same H H' → H' d = some (.xd [(f, v)]) → E (.ref C) (some d) H'
def spPlay (K : PySem.W.Frag) (CC CP CPP EP EH : Addr) : Sp := fun vs H Q E => ∃ (c rx fa : Addr) (kd z : Str) (jv pg hv : V) (hd : PyData) (r : Ru), vs = [.ref c, pg, hv] ∧ CodeAt H c CC kd z rx fa jv ∧ RulesAt H rx CP r ∧ RuOk r ∧ Dp K H hv hd ∧
  ((∃ d, Dp K H pg d ∧ toldD d = false ∧ (∀ rs x y, d = .tuple [x, y, .tuple rs] → rs.length ≤ 1000) ∧ errF EP "page" pg H E) ∨
    ∃ s low rs, PgAt H pg s low rs ∧ SmallR rs ∧ (¬ RightPage r s low rs → errF EP "page" pg H E) ∧ (RightPage r s low rs → handedD kd rs hd = false → errF EH "handed" hv H E) ∧
      (RightPage r s low rs → handedD kd rs hd = true → (kd = "pack" ∨ kd = "strike") ∧ SqT K H fa [] ∧ ∀ p H', Same H H' → EndAt H' p CPP "done" → Q (.ref p) H'))
theorem look_putF {f g : Str} {v : V} (h : g ≠ f) : ∀ fs : List (Str × V), (putF f v fs).lookup g = fs.lookup g
  | [] => by
    show List.lookup g [(f, v)] = none
    rw [List.lookup_cons, beq_eq_false_iff_ne.mpr h]; rfl
  | (k, x) :: r => by
    show List.lookup g (if k = f then (k, v) :: r else (k, x) :: putF f v r) = _
    by_cases e : k = f
    · rw [if_pos e, List.lookup_cons, List.lookup_cons]
      have : (g == k) = false := beq_eq_false_iff_ne.mpr fun y => h (y.trans e)
      rw [this]
    · rw [if_neg e, List.lookup_cons, List.lookup_cons, look_putF h r]
/-- an object on its way, whose ended is known -/
structure AtE (H G : Hp) (x C dx : Addr) (z : Str) (n : Nat) : Prop where
  kp : ∀ a o, a ≠ x → H a = some o → G a = some o
  ex : ∃ fs, G x = some (.ins C dx fs) ∧ fs.lookup (("ended" : Str)) = some (.str z) ∧ fs.length ≤ n
theorem AtE.put {H G : Hp} {x C dx : Addr} {z : Str} {n : Nat} {fs : List (Str × V)} {f : Str} {v : V} (kp : ∀ a o, a ≠ x → H a = some o → G a = some o) (l : fs.lookup (("ended" : Str)) = some (.str z)) (hn : fs.length ≤ n) (hf : (("ended" : Str)) ≠ f) : AtE H (upd G x (.ins C dx (putF f v fs))) x C dx z (n + 1) :=
  ⟨fun a o n e => by rw [upd_ne n]; exact kp a o n e, _, upd_same, by rw [look_putF hf]; exact l, by have := putF_len f v fs; omega⟩
theorem AtE.same {H G G' : Hp} {x C dx : Addr} {z : Str} {n : Nat} (h : AtE H G x C dx z n) (s : Same G G') : AtE H G' x C dx z n := by
  obtain ⟨fs, e, l, m⟩ := h.ex
  exact ⟨fun a o n e => s _ _ (h.kp a o n e), fs, s _ _ e, l, m⟩
theorem DeskAt.but {H G : Hp} {x C dx : Addr} (kp : ∀ a o, a ≠ x → H a = some o → G a = some o) (hx : H x = some (.ins C dx [])) {d CD rx : Addr} {s low ho : Int} {rs : List (Option Rec)} {ow le : V} (h : DeskAt H d CD rx s low ho rs ow le) : DeskAt G d CD rx s low ho rs ow le := by
  obtain ⟨dd, aa, la, rg, sp, ka, kl, h1, h2, h3, h4, h5⟩ := h.ex
  exact ⟨dd, aa, la, rg, sp, ka, kl, kp _ _ (fun z => by rw [z, hx] at h1; cases h1) h1, kp _ _ (fun z => by rw [z, hx] at h2; cases h2) h2, kp _ _ (fun z => by rw [z, hx] at h3; cases h3) h3, kp _ _ (fun z => by rw [z, hx] at h4; cases h4) h4, h5⟩
section
variable {P : Program} {w : World} {K : PySem.W.Frag} {mg : Str → Option Value} {base : Heap}
theorem ok_pp {f fR fW CPP CD : Addr} {fd dR dW : FuncData} (F : Fun K "__init__" "PagePlay.__init__" sPp f fd) (RW : FRw K mg fR dR) (ORW : FnOk P w K mg base CX0 2 fR dR ["desk"] (spRw CD)) (WR : FWr K mg fW dW) (OWR : FnOk P w K mg base CX0 1 fW dW ["desk"] (spWr CD)) (O : OPl K CPP) (OD : ODk K CD) (T : Gv mg) :
    FnOk P w K mg base CX0 3 f fd ["self", "ended", "desk", "lines", "sides", "broken"] (spPp CPP CD) := by
  refine F.ok scPp (fun vs H Q E h => ?_) (fun cdv A outer s H vs Q E hr h => ?_)
  · obtain ⟨x, dx, d, l1, l2, rx, z, bv, s, low, ho, rs, ow, le, rfl, _⟩ := h
    rfl
  · obtain ⟨x, dx, d, l1, l2, rx, z, bv, s, low, ho, rs, ow, le, rfl, hx, DA, so, few, h1, h2, k⟩ := h
    have hr1 := hr.mono (show 1 ≤ 2 by decide)
    refine ⟨_, (pss_cons (ps_fld (pv 0) (pv 1) rfl)
 (pss_cons (ps_fld (pv 0) (pe_call ORW hr rfl RW.g RW.u.kp RW.b .nil pass0 (pa_cons (pv 2) pa_nil)) rfl)
 (pss_cons (ps_fld (pv 0) (pe_fld (pv 2) rfl) rfl)
 (pss_cons (ps_fld (pv 0) (pe_fld (pv 2) rfl) rfl)
 (pss_cons (ps_fld (pv 0) (pe_fld (pv 2) rfl) rfl)
 (pss_cons (ps_fld (pv 0) (pe_fld (pv 2) rfl) rfl)
 (pss_cons (ps_fld (pv 0) (pe_call OWR hr1 rfl WR.g WR.u.kp WR.b .nil pass0 (pa_cons (pv 2) pa_nil)) rfl)
 (pss_cons (ps_fld (pv 0) (pe_fld (pv 2) rfl) rfl)
 (pss_cons (ps_fld (pv 0) (pv 5) rfl)
 (pss_cons (ps_fld (pv 0) (pe_callTy call_tuple_of (by rfl) T.tuple (by decide +kernel) (pa_cons (pv 3) pa_nil)) rfl)
 (pss_one (ps_fld (pv 0) (pe_callTy call_tuple_of (by rfl) T.tuple (by decide +kernel) (pa_cons (pv 4) pa_nil)) rfl)))))))))))), ?_⟩
    have A0 : ∀ a o, a ≠ x → H a = some o → H a = some o := fun _ _ _ e => e
    refine ⟨_, rfl, _, rfl, x, CPP, dx, [], rfl, hx, O.cl, O.no "ended" (by decide +kernel), by decide, ?_⟩
    have A1 : AtE H (upd H x (.ins CPP dx (putF "ended" (.str z) []))) x CPP dx z 1 := ⟨fun a o n e => by rw [upd_ne n]; exact e, _, upd_same, by kernel_rfl, Nat.le_refl _⟩
    generalize upd H x _ = G1 at *
    refine ⟨_, rfl, d, rx, s, low, ho, rs, ow, le, rfl, DA.but A1.kp hx, few, fun ta G1' s1 nt RA => ?_⟩
    have A1' := A1.same s1
    obtain ⟨fs, ex, lk, ln⟩ := A1'.ex
    refine ⟨_, rfl, x, CPP, dx, fs, rfl, ex, O.cl, O.no "row" (by decide +kernel), by omega, ?_⟩
    have A2 := AtE.put (C := CPP) (dx := dx) (f := "row") (v := .ref ta) A1'.kp lk ln (by decide)
    clear ex lk ln
    generalize upd _ x _ = G2 at *
    obtain ⟨fs, ex, lk, ln⟩ := A2.ex
    obtain ⟨dd, aa, la, rg, sp, ka, kl, k1, _⟩ := (DA.but A2.kp hx).ex
    refine ⟨_, rfl, d, CD, dd, _, _, rfl, k1, OD.cl, OD.no "slots" (by decide +kernel), rfl, _, rfl, x, CPP, dx, fs, rfl, ex, O.cl, O.no "slots" (by decide +kernel), by omega, ?_⟩
    have A3 := AtE.put (C := CPP) (dx := dx) (f := "slots") (v := .int (rs.length : Int)) A2.kp lk ln (by decide)
    clear k1 ex lk ln
    generalize upd _ x _ = G3 at *
    obtain ⟨fs, ex, lk, ln⟩ := A3.ex
    obtain ⟨dd, aa, la, rg, sp, ka, kl, k1, _⟩ := (DA.but A3.kp hx).ex
    refine ⟨_, rfl, d, CD, dd, _, _, rfl, k1, OD.cl, OD.no "low" (by decide +kernel), rfl, _, rfl, x, CPP, dx, fs, rfl, ex, O.cl, O.no "low" (by decide +kernel), by omega, ?_⟩
    have A4 := AtE.put (C := CPP) (dx := dx) (f := "low") (v := .int low) A3.kp lk ln (by decide)
    clear k1 ex lk ln
    generalize upd _ x _ = G4 at *
    obtain ⟨fs, ex, lk, ln⟩ := A4.ex
    obtain ⟨dd, aa, la, rg, sp, ka, kl, k1, _⟩ := (DA.but A4.kp hx).ex
    refine ⟨_, rfl, d, CD, dd, _, _, rfl, k1, OD.cl, OD.no "holes" (by decide +kernel), rfl, _, rfl, x, CPP, dx, fs, rfl, ex, O.cl, O.no "holes" (by decide +kernel), by omega, ?_⟩
    have A5 := AtE.put (C := CPP) (dx := dx) (f := "holes") (v := .int ho) A4.kp lk ln (by decide)
    clear k1 ex lk ln
    generalize upd _ x _ = G5 at *
    obtain ⟨fs, ex, lk, ln⟩ := A5.ex
    obtain ⟨dd, aa, la, rg, sp, ka, kl, k1, _⟩ := (DA.but A5.kp hx).ex
    refine ⟨_, rfl, d, CD, dd, _, _, rfl, k1, OD.cl, OD.no "own" (by decide +kernel), rfl, _, rfl, x, CPP, dx, fs, rfl, ex, O.cl, O.no "own" (by decide +kernel), by omega, ?_⟩
    have A6 := AtE.put (C := CPP) (dx := dx) (f := "own") (v := ow) A5.kp lk ln (by decide)
    clear k1 ex lk ln
    generalize upd _ x _ = G6 at *
    obtain ⟨fs, ex, lk, ln⟩ := A6.ex
    refine ⟨_, rfl, d, rx, s, low, ho, rs, ow, le, rfl, DA.but A6.kp hx, so, _, rfl, x, CPP, dx, fs, rfl, ex, O.cl, O.no "written" (by decide +kernel), by omega, ?_⟩
    have A7 := AtE.put (C := CPP) (dx := dx) (f := "written") (v := .bl false) A6.kp lk ln (by decide)
    clear ex lk ln
    generalize upd _ x _ = G7 at *
    obtain ⟨fs, ex, lk, ln⟩ := A7.ex
    obtain ⟨dd, aa, la, rg, sp, ka, kl, k1, _⟩ := (DA.but A7.kp hx).ex
    refine ⟨_, rfl, d, CD, dd, _, _, rfl, k1, OD.cl, OD.no "spoilt" (by decide +kernel), rfl, _, rfl, x, CPP, dx, fs, rfl, ex, O.cl, O.no "spoilt" (by decide +kernel), by omega, ?_⟩
    have A8 := AtE.put (C := CPP) (dx := dx) (f := "spoilt") (v := .ref sp) A7.kp lk ln (by decide)
    clear k1 ex lk ln
    generalize upd _ x _ = G8 at *
    obtain ⟨fs, ex, lk, ln⟩ := A8.ex
    refine ⟨_, rfl, _, rfl, x, CPP, dx, fs, rfl, ex, O.cl, O.no "broken" (by decide +kernel), by omega, ?_⟩
    have A9 := AtE.put (C := CPP) (dx := dx) (f := "broken") (v := bv) A8.kp lk ln (by decide)
    clear ex lk ln
    generalize upd _ x _ = G9 at *
    have n1 : l1 ≠ x := fun z => by rw [z, hx] at h1; cases h1
    have n2 : l2 ≠ x := fun z => by rw [z, hx] at h2; cases h2
    refine ⟨_, rfl, l1, [], rfl, .inl ⟨SqL.of (A9.kp _ _ n1 h1), fun t ht => ?_⟩⟩
    have A9' := A9.same (same_new (o := .tup []) ht)
    generalize upd _ t _ = G9' at *
    obtain ⟨fs, ex, lk, ln⟩ := A9'.ex
    refine ⟨_, rfl, x, CPP, dx, fs, rfl, ex, O.cl, O.no "played" (by decide +kernel), by omega, ?_⟩
    have A10 := AtE.put (C := CPP) (dx := dx) (f := "played") (v := .ref t) A9'.kp lk ln (by decide)
    clear ex lk ln
    generalize upd _ x _ = G10 at *
    refine ⟨_, rfl, l2, [], rfl, .inl ⟨SqL.of (A10.kp _ _ n2 h2), fun u hu => ?_⟩⟩
    have A10' := A10.same (same_new (o := .tup []) hu)
    generalize upd _ u _ = G10' at *
    obtain ⟨fs, ex, lk, ln⟩ := A10'.ex
    refine ⟨_, rfl, x, CPP, dx, fs, rfl, ex, O.cl, O.no "tested" (by decide +kernel), by omega, ?_⟩
    have A11 := AtE.put (C := CPP) (dx := dx) (f := "tested") (v := .ref u) A10'.kp lk ln (by decide)
    obtain ⟨fs', ex', lk', _⟩ := A11.ex
    exact k _ A11.kp ⟨dx, fs', ex', lk'⟩
theorem ok_pgp {f fRP fHA fHO fHL fRO fPF fBP fD fP CC CP CD CPP EP EH iP iH : Addr} {fd dRP dHA dHO dHL dRO dPF dBP dD dP : FuncData} (F : FunD K "play_page" "play_page" (defArgs sPg5) (defBody sPg5) (defScope sPg5) [.non] [] f fd)
    (RP : FRp K mg fRP dRP) (ORP : FnOk P w K mg base CX0 5 fRP dRP ["rules", "page"] (spRp K CP)) (HA : FHa K mg fHA dHA) (OHA : FnOk P w K mg base CX0 4 fHA dHA ["kind", "row", "handed"] (spHa K)) (HO : FHo K mg fHO dHO) (OHO : FnOk P w K mg base CX0 1 fHO dHO ["kind", "handed"] spHo) (HL : FHl K mg fHL dHL) (OHL : FnOk P w K mg base CX0 1 fHL dHL ["kind", "handed"] spHl)
    (RO : FRo K mg fRO dRO) (ORO : FnOk P w K mg base CX0 2 fRO dRO ["rules", "row"] (spRo CP)) (PF : FPf K mg fPF dPF) (OPF : FnOk P w K mg base CX0 2 fPF dPF ["forms", "jumps", "desk"] (spPf K)) (BP : FBp K mg fBP dBP) (OBP : FnOk P w K mg base CX0 5 fBP dBP ["kind", "rules", "page", "handed", "desk", "ended"] (spBp CP CD))
    (MD : Mk K CD fD) (OPD : FnOk P w K mg base CX0 1 fD dD ["self", "rules", "page", "holes", "own", "length"] (spPd CD)) (gD : mg "PageDesk" = some (.ref CD)) (bPD : Binds K dD ["self", "rules", "page", "holes", "own", "length"] [])
    (MP : Mk K CPP fP) (OPP : FnOk P w K mg base CX0 3 fP dP ["self", "ended", "desk", "lines", "sides", "broken"] (spPp CPP CD)) (gPP : mg "PagePlay" = some (.ref CPP)) (bPP : Binds K dP ["self", "ended", "desk", "lines", "sides", "broken"] [])
    (BP1 : BErr P K mg "BadPage" "BadPage.__init__" (inClass (top 7) 0) ["page"] EP iP) (BH1 : BErr P K mg "BadHanded" "BadHanded.__init__" (inClass (top 8) 0) ["handed"] EH iH) (su : mg "super" = none) (OC : OCd K CC) :
    FnOk P w K mg base (CX P w) 6 f fd ["code", "page", "handed"] (spPlay K CC CP CPP EP EH) := by
  refine F.ok scPg5 (fun vs H Q E h => ?_) (fun cdv A outer s H vs Q E hr h => ?_)
  · obtain ⟨c, rx, fa, kd, z, jv, pg, hv, hd, r, rfl, _⟩ := h
    rfl
  · obtain ⟨c, rx, fa, kd, z, jv, pg, hv, hd, r, rfl, ⟨dx, rr, an, hc⟩, RA, R, dh, h⟩ := h
    have hr1 := hr.mono (show 1 ≤ 5 by decide)
    have hr2 := hr.mono (show 2 ≤ 5 by decide)
    have hr3 := hr.mono (show 4 ≤ 5 by decide)
    have hr4 := hr.mono (show 4 ≤ 5 by decide)
    have hr5 := hr.mono (show 5 ≤ 5 by decide)
    have hr6 := hr.mono (show 5 ≤ 5 by decide)
    refine ⟨_, (pss_cons (ps_set (i := 3) scPg5.nd rfl (.inl rfl) (pe_fld (pv 0) rfl))
 (pss_cons (ps_if (pt_not (pt_val (pe_call ORP hr5 rfl RP.g RP.u.kp RP.b .nil pass0 (pa_cons (pv 3) (pa_cons (pv 1) pa_nil))))) (pss_one (ps_raise rfl (takes_of rfl rfl rfl rfl) (pmk_err BP1.T BP1.F (by decide) BP1.g su hr (pa_cons (pv 1) pa_nil)))) pss_nil)
 (pss_cons (ps_asg (pv 1) (pg_tup rfl (pgs_cons (pg_name (i := 4) scPg5.nd rfl (.inl rfl)) (pgs_cons (pg_name (i := 5) scPg5.nd rfl (.inl rfl)) (pgs_cons (pg_name (i := 6) scPg5.nd rfl (.inl rfl)) pgs_nil)))))
 (pss_cons (ps_if (pt_not (pt_val (pe_call OHA hr4 rfl HA.g HA.u.kp HA.b .nil pass0 (pa_cons (pe_fld (pv 0) rfl) (pa_cons (pv 6) (pa_cons (pv 2) pa_nil)))))) (pss_one (ps_raise rfl (takes_of rfl rfl rfl rfl) (pmk_err BH1.T BH1.F (by decide) BH1.g su hr (pa_cons (pv 2) pa_nil)))) pss_nil)
 (pss_cons (ps_par (i := 7) (j := 8) (by rfl) scPg5.nd rfl rfl (by decide) rfl rfl (pa_cons (pe_call OHO hr1 rfl HO.g HO.u.kp HO.b .nil pass0 (pa_cons (pe_fld (pv 0) rfl) (pa_cons (pv 2) pa_nil))) (pa_cons (pe_call OHL hr1 rfl HL.g HL.u.kp HL.b .nil pass0 (pa_cons (pe_fld (pv 0) rfl) (pa_cons (pv 2) pa_nil))) pa_nil)) (by rfl))
 (pss_cons (ps_set (i := 9) scPg5.nd rfl (.inl rfl) (pe_make MD OPD hr2 rfl gD bPD .nil pass0 (pa_cons (pv 3) (pa_cons (pv 1) (pa_cons (pe_op op_sub (pe_op op_sub (pv 4) (pv 5)) (pe_call ORO hr2 rfl RO.g RO.u.kp RO.b .nil pass0 (pa_cons (pv 3) (pa_cons (pv 6) pa_nil)))) (pa_cons (pv 7) (pa_cons (pv 8) pa_nil)))))))
 (pss_cons (ps_asg (pe_call OPF hr2 rfl PF.g PF.u.kp PF.b .nil pass0 (pa_cons (pe_fld (pv 0) rfl) (pa_cons (pe_fld (pv 0) rfl) (pa_cons (pv 9) pa_nil)))) (pg_tup rfl (pgs_cons (pg_name (i := 10) scPg5.nd rfl (.inl rfl)) (pgs_cons (pg_name (i := 11) scPg5.nd rfl (.inl rfl)) (pgs_cons (pg_name (i := 12) scPg5.nd rfl (.inl rfl)) pgs_nil)))))
 (pss_cons (ps_set (i := 13) scPg5.nd rfl (.inl rfl) (pe_call OBP hr6 rfl BP.g BP.u.kp BP.b .nil pass0 (pa_cons (pe_fld (pv 0) rfl) (pa_cons (pv 3) (pa_cons (pv 1) (pa_cons (pv 2) (pa_cons (pv 9) (pa_cons (pv 10) pa_nil))))))))
 (pss_one (ps_ret (pe_make MP OPP hr3 rfl gPP bPP .nil pass0 (pa_cons (pv 10) (pa_cons (pv 9) (pa_cons (pv 11) (pa_cons (pv 12) (pa_cons (pv 13) pa_nil)))))))))))))))), ?_⟩
    refine ⟨_, rfl, c, CC, dx, _, _, rfl, hc, OC.cl, OC.no "rules" (by decide +kernel), rfl, ?_⟩
    have so : ∀ {v : V}, (v = .non ∨ ∃ j : Nat, v = .int (j : Int)) → scal v .non = true := fun h => by
      rcases h with rfl | ⟨j, rfl⟩ <;> rfl
    rcases h with ⟨d, dp, e0, few, ke⟩ | ⟨sz, low, rs, PA, S, kn, kh, kk⟩
    · exact ⟨_, rfl, _, rfl, rx, r, pg, rfl, RA, R, .inl ⟨d, dp, e0, few, fun H1 s1 => ⟨_, rfl, iteT ⟨_, rfl, rfl, (fun z => nomatch z), fun _ dd hd => ke dd _ (s1.trans (same_new hd)) upd_same⟩⟩⟩⟩
    refine ⟨_, rfl, _, rfl, rx, r, pg, rfl, RA, R, .inr ⟨sz, low, rs, PA, S, fun b H1 hb s1 => ⟨_, rfl, ?_⟩⟩⟩
    cases b with
    | false => exact iteT ⟨_, rfl, rfl, (fun z => nomatch z), fun _ dd hd => kn (fun y => nomatch hb.mpr y) dd _ (s1.trans (same_new hd)) upd_same⟩
    | true =>
      have RP := hb.mp rfl
      have PA1 := PA.keep (KeepU.of s1)
      obtain ⟨p, ta, rfl, hp, RT⟩ := id PA1
      have hc1 := s1 _ _ hc
      refine iteF ⟨_, rfl, p, _, rfl, SqT.of hp, rfl, _, _, rfl, _, _, rfl, _, _, rfl, rfl, ?_⟩
      refine ⟨_, rfl, c, CC, dx, _, _, rfl, hc1, OC.cl, OC.no "kind" (by decide +kernel), rfl, _, rfl, _, rfl, kd, ta, hv, hd, rs, rfl, RT, Dp.same s1 dh, _, rfl, ?_⟩
      cases hh : handedD kd rs hd with
      | false => exact iteT ⟨_, rfl, rfl, (fun z => nomatch z), fun _ dd hd => kh RP hh dd _ (s1.trans (same_new hd)) upd_same⟩
      | true =>
        obtain ⟨hkd, hf, kq⟩ := kk RP hh
        obtain ⟨ow, how⟩ : ∃ ow : V, (kd = "pack" ∧ ow = .non) ∨ (kd = "strike" ∧ ow = hv ∧ ∃ j : Nat, ow = .int (j : Int)) := by
          rcases hkd with rfl | rfl
          · exact ⟨.non, .inl ⟨rfl, rfl⟩⟩
          · refine ⟨hv, .inr ⟨rfl, rfl, ?_⟩⟩
            have e : heldD rs hd = true := hh
            cases dh with
            | int i =>
              have e : (decide (0 ≤ i) && _) = true := e
              have := of_decide_eq_true (Bool.and_eq_true_iff.mp e).1
              exact ⟨i.toNat, by rw [Int.toNat_of_nonneg this]⟩
            | _ => cases e
        have mkO : (kd = "pack" ∧ ow = .non) ∨ (kd = "strike" ∧ ow = hv) := how.imp id fun h => ⟨h.1, h.2.1⟩
        have hkd2 : (kd = "pack" ∧ ow = .non) ∨ (kd = "strike" ∧ ∃ j : Nat, ow = .int (j : Int)) := how.imp id fun h => ⟨h.1, h.2.2⟩
        have hso : ow = .non ∨ ∃ j : Nat, ow = .int (j : Int) := hkd2.imp And.right And.right
        refine iteF ⟨_, rfl, c, CC, dx, _, _, rfl, hc1, OC.cl, OC.no "kind" (by decide +kernel), rfl, _, rfl, kd, hv, ow, rfl, mkO, ?_⟩
        refine ⟨_, rfl, c, CC, dx, _, _, rfl, hc1, OC.cl, OC.no "kind" (by decide +kernel), rfl, _, rfl, kd, hv, rfl, hkd, _, _, rfl, ?_⟩
        have RA1 : RulesAt H1 rx CP r := RA.imp fun _ e => s1 _ _ e
        refine ⟨_, rfl, _, rfl, _, rfl, _, rfl, _, _, rfl, rfl, _, rfl, _, rfl, rx, ta, r, rs, rfl, RA1, R, RT, S, fun H2 s2 => ⟨_, _, rfl, rfl, _, rfl, _, rfl, fun d dd nd ndd ned => ?_⟩⟩
        have s3 : Same H2 (upd (upd H2 dd (.own d)) d (.ins CD dd [])) := fun a o e => by
          rw [upd_ne (fun y => by rw [y, nd] at e; cases e), upd_ne (fun y => by rw [y, ndd] at e; cases e)]
          exact e
        have hd3 : upd (upd H2 dd (.own d)) d (.ins CD dd []) d = some (.ins CD dd []) := upd_same
        generalize upd (upd H2 dd (.own d)) d (.ins CD dd []) = H3 at *
        refine ⟨d, dd, rx, .ref p, ow, .non, sz, low, _, rs, rfl, hd3, PA1.keep (KeepU.of (s2.trans s3)), S.len, fun G kp DA => ⟨rfl, ?_⟩⟩
        have s2G : Same H2 G := fun a o e => kp a o (fun y => by rw [y, nd] at e; cases e) (s3 _ _ e)
        have sG : Same H G := s1.trans (s2.trans s2G)
        have hcG := sG _ _ hc
        refine ⟨_, rfl, c, CC, dx, _, _, rfl, hcG, OC.cl, OC.no "forms" (by decide +kernel), rfl, _, rfl, c, CC, dx, _, _, rfl, hcG, OC.cl, OC.no "jumps" (by decide +kernel), rfl, _, rfl, fa, jv, .ref d, rfl, (KeepT.of sG).seq hf, fun t l1 l2 G2 sG2 ht hl1 hl2 => ?_⟩
        refine ⟨t, _, rfl, SqT.of ht, rfl, _, _, rfl, _, _, rfl, _, _, rfl, rfl, ?_⟩
        have sA := sG.trans sG2
        have DA2 := DA.same sG2
        have PA2 := PA.keep (KeepU.of sA)
        refine ⟨_, rfl, c, CC, dx, _, _, rfl, sA _ _ hc, OC.cl, OC.no "kind" (by decide +kernel), rfl, _, rfl, _, rfl, _, rfl, _, rfl, _, rfl, kd, rx, d, .ref p, hv, r, sz, low, _, rs, ow, .non, rfl, ⟨hkd2, RA.imp fun _ e => sA _ _ e, R, PA2, S, RP.1.2, DA2⟩, fun v G3 s4 => ?_⟩
        refine ⟨_, rfl, _, rfl, _, rfl, _, rfl, _, rfl, fun x xx nx nxx nex => ?_⟩
        have s5 : Same G3 (upd (upd G3 xx (.own x)) x (.ins CPP xx [])) := fun a o e => by
          rw [upd_ne (fun y => by rw [y, nx] at e; cases e), upd_ne (fun y => by rw [y, nxx] at e; cases e)]
          exact e
        have hx5 : upd (upd G3 xx (.own x)) x (.ins CPP xx []) x = some (.ins CPP xx []) := upd_same
        generalize upd (upd G3 xx (.own x)) x (.ins CPP xx []) = G5 at *
        have s25 := s4.trans s5
        refine ⟨x, xx, d, l1, l2, rx, "done", v, sz, low, _, rs, ow, .non, rfl, hx5, DA2.same s25, so hso, S.len, s25 _ _ hl1, s25 _ _ hl2, fun G6 kp6 en => ⟨rfl, kq x G6 (fun a o e => ?_) en⟩⟩
        have e3 := s4 _ _ (sA _ _ e)
        exact kp6 a o (fun y => by rw [y, nx] at e3; cases e3) (s5 _ _ e3)
end
end IdL
namespace IdL
open PySem L2 TL
/-! ### codes made, with their fields -/
def spInit5 (K : PySem.W.Frag) (CC : Addr) : Sp := fun vs H Q _ => ∃ (x dx rx : Addr) (kd z : Str) (rs : List Str) (ds : List PyData) (jmp : List (Key × V)), vs = [.ref x, .str kd, .ref rx, .str z] ∧ kd ∈ kinds4 ∧ H x = some (.ins CC dx []) ∧ z.length ≤ 900000 ∧ Rows (linesOf z) ∧
  codeM pageD 40 7 z = .ok rs ds jmp ∧ (∀ r, LeastP kd rs ds jmp r → r = none) ∧ ∀ H' fa ja xs, (∀ a o, a ≠ x → H a = some o → H' a = some o) → CodeAt H' x CC kd z rx fa (.ref ja) → SqT K H' fa xs → TDs K H' xs ds → H' ja = some (.dK jmp) → Q .non H'
def cdF (kd z : Str) (rx rr fa ja an : Addr) : List (Str × V) := [("kind", .str kd), ("rules", .ref rx), ("text", .str z), ("rows", .ref rr), ("forms", .ref fa), ("jumps", .ref ja), ("answers", .ref an)]
section
variable {P : Program} {w : World} {K : PySem.W.Frag} {mg : Str → Option Value} {base : Heap}
theorem ok_init5 {f fC fL CC CL CT CR CK iR iK : Addr} {fd dC dL : FuncData} (F : Fun K "__init__" "PageCode.__init__" sInit f fd) (C : FCode K mg fC dC) (L : FLeast K mg fL dL) (OC : FnOk P w K mg base (CX P w) 8 fC dC ["text", "read_line", "most_lines", "most_ifs"] (spCode P w K mg base 6 CL CT)) (OL : FnOk P w K mg base CX0 4 fL dL ["kind", "rows", "forms", "jumps"] (spLeast K))
    (BR : BErr P K mg "Refused" "Refused.__init__" stRef ["line"] CR iR) (BK : BErr P K mg "BadKind" "BadKind.__init__" stKind ["kind"] CK iK) (su : mg "super" = none) (T : Glo mg) (G : GloC P w K mg base) (O : OCd K CC) :
    FnOk P w K mg base (CX P w) 9 f fd ["self", "kind", "rules", "text"] (spInit5 K CC) := by
  obtain ⟨kp, gK, tK⟩ := G.kinds
  obtain ⟨t1, gL⟩ := G.lines
  obtain ⟨t2, gI⟩ := G.ifs
  obtain ⟨fr, gR, D⟩ := G.rdr
  refine F.okX scInit (fun vs H Q E h => ?_) (fun cdv A outer s H vs Q E hr h => ?_)
  · obtain ⟨x, dx, rx, kd, z, rs, ds, jmp, rfl, _⟩ := h
    rfl
  · obtain ⟨x, dx, rx, kd, z, rs, ds, jmp, rfl, hk, hx, hz, ro, ec, ln, k⟩ := h
    have hr3 := hr.mono (show 4 ≤ 8 by decide)
    refine ⟨_, (pss_cons (ps_if (pt_cmpR op_notIn_seq (pv 1) (pe_glob rfl gK (v := .ref kp) rfl) (by rfl)) (pss_one (ps_raise rfl (takes_of rfl rfl rfl rfl) (pmk_err BK.T BK.F (by decide) BK.g su hr (pa_cons (pv 1) pa_nil)))) pss_nil)
 (pss_cons (ps_asg (pe_call OC hr rfl C.g C.u.kp C.b .nil (passes_call (takes_of rfl rfl rfl rfl) fun _ _ _ _ z => z) (pa_cons (pv 3) (pa_cons (pe_glob rfl gR (v := .ref fr) rfl) (pa_cons (pe_glob rfl gL (v := .int 40) ⟨_, rfl⟩) (pa_cons (pe_glob rfl gI (v := .int 7) ⟨_, rfl⟩) pa_nil))))) (pg_tup rfl (pgs_cons (pg_name (i := 4) scInit.nd rfl (.inl rfl)) (pgs_cons (pg_name (i := 5) scInit.nd rfl (.inl rfl)) (pgs_cons (pg_name (i := 6) scInit.nd rfl (.inl rfl)) pgs_nil)))))
 (pss_cons (ps_set (i := 7) scInit.nd rfl (.inl rfl) (pe_call OL hr3 rfl L.g L.u.kp L.b .nil pass0 (pa_cons (pv 1) (pa_cons (pv 4) (pa_cons (pv 5) (pa_cons (pv 6) pa_nil))))))
 (pss_cons (ps_if (pt_cmpR op_notN (pv 7) pe_non (nomark _)) (pss_one (ps_raise rfl (takes_of rfl rfl rfl rfl) (pmk_err BR.T BR.F (by decide) BR.g su hr (pa_cons (pv 7) pa_nil)))) pss_nil)
 (pss_cons (ps_fld (pv 0) (pv 1) rfl)
 (pss_cons (ps_fld (pv 0) (pv 2) rfl)
 (pss_cons (ps_fld (pv 0) (pv 3) rfl)
 (pss_cons (ps_fld (pv 0) (pe_callTy call_tuple_of (by rfl) T.tuple (by decide +kernel) (pa_cons (pv 4) pa_nil)) rfl)
 (pss_cons (ps_fld (pv 0) (pe_callTy call_tuple_of (by rfl) T.tuple (by decide +kernel) (pa_cons (pv 5) pa_nil)) rfl)
 (pss_cons (ps_fld (pv 0) (pv 6) rfl)
 (pss_one (ps_fld (pv 0) pe_dnewK rfl)))))))))))), ?_⟩
    refine ⟨_, rfl, kp, _, rfl, .inr tK.sq, rfl, flat_strs kinds4, _, rfl, ?_⟩
    rw [in_strs]
    refine iteNS hk ?_
    refine ⟨_, rfl, z, fr, 40, 7, pageD, rfl, hz, ro, D, fun rs' ds' jmp' ra fa ja t xs H2 e s2 hra hfa td has hja ht => ?_, (fun m e => by rw [ec] at e; cases e), (fun e => by rw [ec] at e; cases e)⟩
    obtain ⟨e1, eF, l30, l5⟩ := codeM_ok e
    rw [ec] at e
    cases e
    subst e1
    have lds := forms_len _ _ _ _ _ eF
    have fok : ∀ d ∈ ds, FOk d := forms_all row_page _ _ _ _ _ eF (fun _ h => absurd h List.not_mem_nil)
    have pok : PagesOk ds := fun d hd => ⟨(fok d hd).pg, (fok d hd).iff⟩
    have J : JOk ds jmp := jumps_of eF
    simp only [List.length_nil] at lds
    refine ⟨t, _, rfl, SqT.of ht, rfl, _, _, rfl, _, _, rfl, _, _, rfl, rfl, ?_⟩
    refine ⟨_, rfl, _, rfl, _, rfl, _, rfl, kd, ra, fa, ja, linesOf z, ds, jmp, rfl, SqL.of hra, (fun y hy => Nat.le_trans (ro.len y hy) (by decide)), ro.few, ⟨⟨xs, hfa, td⟩, has⟩, pok, hja, J, by omega, (by show ((ds.drop 0).filter isIfD).length ≤ 20; rw [List.drop_zero]; omega), fun r H3 hv s3 => ?_⟩
    have er := ln r hv
    subst er
    have s03 := s2.trans s3
    refine ⟨_, rfl, rfl, _, rfl, iteNS rfl ?_⟩
    have A0 : AtF H H3 x CC dx [] := ⟨fun a o _ e => s03 _ _ e, s03 _ _ hx⟩
    have nx : ∀ {q : Addr} {u : List V}, H2 q = some (.lst u) → q ≠ x := fun {q u} h y => by
      have := s2 _ _ hx
      rw [y, this] at h; cases h
    have nja : ja ≠ x := fun y => by
      have := s2 _ _ hx
      rw [y, this] at hja; cases hja
    have nfa := nx hfa
    have nra := nx hra
    refine ⟨_, rfl, _, rfl, x, CC, dx, [], rfl, A0.at_, O.cl, O.no "kind" (by decide +kernel), by decide, ?_⟩
    have A1 := A0.put (f := "kind") (v := .str kd) (fs' := (cdF kd z rx x x x x).take 1) rfl
    have u1 : ∀ a o, a ≠ x → H3 a = some o → upd H3 x (.ins CC dx (putF "kind" (.str kd) [])) a = some o := fun a o n e => by rw [upd_ne n]; exact e
    generalize upd H3 x (.ins CC dx (putF "kind" (.str kd) [])) = G1 at *
    refine ⟨_, rfl, _, rfl, x, CC, dx, _, rfl, A1.at_, O.cl, O.no "rules" (by decide +kernel), (by show 1 < 1000; decide), ?_⟩
    have A2 := A1.put (f := "rules") (v := .ref rx) (fs' := (cdF kd z rx x x x x).take 2) (by kernel_rfl)
    have u2 : ∀ a o, a ≠ x → H3 a = some o → upd G1 x (.ins CC dx (putF "rules" (.ref rx) ((cdF kd z rx x x x x).take 1))) a = some o := fun a o n e => by rw [upd_ne n]; exact u1 a o n e
    generalize upd G1 x (.ins CC dx (putF "rules" (.ref rx) ((cdF kd z rx x x x x).take 1))) = G2 at *
    refine ⟨_, rfl, _, rfl, x, CC, dx, _, rfl, A2.at_, O.cl, O.no "text" (by decide +kernel), (by show 2 < 1000; decide), ?_⟩
    have A3 := A2.put (f := "text") (v := .str z) (fs' := (cdF kd z rx x x x x).take 3) (by kernel_rfl)
    have u3 : ∀ a o, a ≠ x → H3 a = some o → upd G2 x (.ins CC dx (putF "text" (.str z) ((cdF kd z rx x x x x).take 2))) a = some o := fun a o n e => by rw [upd_ne n]; exact u2 a o n e
    generalize upd G2 x (.ins CC dx (putF "text" (.str z) ((cdF kd z rx x x x x).take 2))) = G3 at *
    refine ⟨_, rfl, ra, _, rfl, .inl ⟨SqL.of (u3 _ _ nra (s3 _ _ hra)), fun t3 ht3 => ?_⟩⟩
    have A3' := A3.same (same_new (o := .tup ((linesOf z).map V.str)) ht3)
    have u3' : ∀ a o, a ≠ x → H3 a = some o → upd G3 t3 (.tup ((linesOf z).map V.str)) a = some o := fun a o n e => same_new (o := .tup ((linesOf z).map V.str)) ht3 _ _ (u3 a o n e)
    generalize upd G3 t3 (.tup ((linesOf z).map V.str)) = G3' at *
    refine ⟨_, rfl, x, CC, dx, _, rfl, A3'.at_, O.cl, O.no "rows" (by decide +kernel), (by show 3 < 1000; decide), ?_⟩
    have A4 := A3'.put (f := "rows") (v := .ref t3) (fs' := (cdF kd z rx t3 x x x).take 4) (by kernel_rfl)
    have u4 : ∀ a o, a ≠ x → H3 a = some o → upd G3' x (.ins CC dx (putF "rows" (.ref t3) ((cdF kd z rx x x x x).take 3))) a = some o := fun a o n e => by rw [upd_ne n]; exact u3' a o n e
    generalize upd G3' x (.ins CC dx (putF "rows" (.ref t3) ((cdF kd z rx x x x x).take 3))) = G4 at *
    refine ⟨_, rfl, fa, _, rfl, .inl ⟨SqL.of (u4 _ _ nfa (s3 _ _ hfa)), fun t5 ht5 => ?_⟩⟩
    have s5 : Same G4 (upd G4 t5 (.tup xs)) := same_new ht5
    have A4' := A4.same s5
    have n5 : t5 ≠ x := (A4.free ht5).1
    have h5 : upd G4 t5 (.tup xs) t5 = some (.tup xs) := upd_same
    have u4' : ∀ a o, a ≠ x → H3 a = some o → upd G4 t5 (.tup xs) a = some o := fun a o n e => s5 _ _ (u4 a o n e)
    generalize upd G4 t5 (.tup xs) = G4' at *
    refine ⟨_, rfl, x, CC, dx, _, rfl, A4'.at_, O.cl, O.no "forms" (by decide +kernel), (by show 4 < 1000; decide), ?_⟩
    have A5 := A4'.put (f := "forms") (v := .ref t5) (fs' := (cdF kd z rx t3 t5 x x).take 5) (by kernel_rfl)
    have u5 : ∀ a o, a ≠ x → H3 a = some o → upd G4' x (.ins CC dx (putF "forms" (.ref t5) ((cdF kd z rx t3 x x x).take 4))) a = some o := fun a o n e => by rw [upd_ne n]; exact u4' a o n e
    have q5 : upd G4' x (.ins CC dx (putF "forms" (.ref t5) ((cdF kd z rx t3 x x x).take 4))) t5 = some (.tup xs) := by rw [upd_ne n5]; exact h5
    generalize upd G4' x (.ins CC dx (putF "forms" (.ref t5) ((cdF kd z rx t3 x x x).take 4))) = G5 at *
    refine ⟨_, rfl, _, rfl, x, CC, dx, _, rfl, A5.at_, O.cl, O.no "jumps" (by decide +kernel), (by show 5 < 1000; decide), ?_⟩
    have A6 := A5.put (f := "jumps") (v := .ref ja) (fs' := (cdF kd z rx t3 t5 ja x).take 6) (by kernel_rfl)
    have u6 : ∀ a o, a ≠ x → H3 a = some o → upd G5 x (.ins CC dx (putF "jumps" (.ref ja) ((cdF kd z rx t3 t5 x x).take 5))) a = some o := fun a o n e => by rw [upd_ne n]; exact u5 a o n e
    have q6 : upd G5 x (.ins CC dx (putF "jumps" (.ref ja) ((cdF kd z rx t3 t5 x x).take 5))) t5 = some (.tup xs) := by rw [upd_ne n5]; exact q5
    generalize upd G5 x (.ins CC dx (putF "jumps" (.ref ja) ((cdF kd z rx t3 t5 x x).take 5))) = G6 at *
    intro d8 hd8
    have s8 : Same G6 (upd G6 d8 (.dK [])) := same_new hd8
    have A6' := A6.same s8
    have u6' : ∀ a o, a ≠ x → H3 a = some o → upd G6 d8 (.dK []) a = some o := fun a o n e => s8 _ _ (u6 a o n e)
    have q6' := s8 _ _ q6
    generalize upd G6 d8 (.dK []) = G6' at *
    refine ⟨_, rfl, x, CC, dx, _, rfl, A6'.at_, O.cl, O.no "answers" (by decide +kernel), (by show 6 < 1000; decide), ?_⟩
    have A7 := A6'.put (f := "answers") (v := .ref d8) (fs' := cdF kd z rx t3 t5 ja d8) (by kernel_rfl)
    have u7 : ∀ a o, a ≠ x → H3 a = some o → upd G6' x (.ins CC dx (putF "answers" (.ref d8) ((cdF kd z rx t3 t5 ja x).take 6))) a = some o := fun a o n e => by rw [upd_ne n]; exact u6' a o n e
    have q7 : upd G6' x (.ins CC dx (putF "answers" (.ref d8) ((cdF kd z rx t3 t5 ja x).take 6))) t5 = some (.tup xs) := by rw [upd_ne n5]; exact q6'
    generalize upd G6' x (.ins CC dx (putF "answers" (.ref d8) ((cdF kd z rx t3 t5 ja x).take 6))) = G7 at *
    have kt : KeepT H2 G7 := fun a us h => by
      have na : a ≠ x := fun y => by
        have hxx := s2 _ _ hx
        rcases h with h | ⟨o, h⟩ <;> rw [y, hxx] at h <;> cases h
      rcases h with h | ⟨o, h⟩
      · exact .inl (u7 _ _ na (s3 _ _ h))
      · exact .inr ⟨o, u7 _ _ na (s3 _ _ h)⟩
    exact k G7 t5 ja xs A7.kp ⟨dx, _, _, A7.at_⟩ (SqT.of q7) (td.keep kt) (u7 _ _ nja (s3 _ _ hja))
end
/-- the codes of the law: a text without lines, and one that quits at once -/
theorem code_none : codeM pageD 40 7 "" = .ok [] [] [] := by rfl
theorem code_quit : codeM pageD 40 7 "quit" = .ok ["quit"] [.tuple [.str "quit"]] [] := by kernel_rfl
theorem way_nil {m : Nat} {ls : List Nat} (h : WayM [] [] m ls) : ls = [] := by
  cases h with
  | over _ _ => rfl
  | ends _ hm _ => exact absurd hm (Nat.not_lt_zero _)
  | ifA _ _ _ hm _ _ _ => exact absurd hm (Nat.not_lt_zero _)
  | ifB _ _ _ _ hm _ _ _ _ => exact absurd hm (Nat.not_lt_zero _)
  | pl _ _ _ hm _ _ _ _ => exact absurd hm (Nat.not_lt_zero _)
theorem least_none {kd : Str} : ∀ r, LeastP kd [] [] [] r → r = none
  | none, _ => rfl
  | some n, ⟨h, _⟩ => by
    rcases h with ⟨row, h, _⟩ | ⟨ls, ⟨m, _, hw⟩, h⟩
    · cases h
    · rw [way_nil hw] at h; cases h
def dsQ : List PyData := [.tuple [.str "quit"]]
theorem way_quit {ls : List Nat} (h : WayR dsQ [] 0 ls) : ls = [0] := by
  obtain ⟨m, hs, hw⟩ := h
  have e0 : headW (dsQ.getD 0 .none) = "quit" := rfl
  have hm : m = 0 := by
    cases hs with
    | stop _ _ => rfl
    | end_ _ _ _ h _ => rw [e0] at h; exact absurd h (by decide +kernel)
    | else_ _ _ _ _ h _ _ => rw [e0] at h; exact absurd h (by decide +kernel)
  subst hm
  cases hw with
  | over _ h => exact absurd h (by decide)
  | ends _ _ _ => rfl
  | ifA _ _ _ _ h _ _ => rw [e0] at h; exact absurd h (by decide +kernel)
  | ifB _ _ _ _ _ h _ _ _ => rw [e0] at h; exact absurd h (by decide +kernel)
  | pl _ _ _ _ h _ _ _ => rw [e0] at h; exact absurd (by decide +kernel : ("quit" : Str) ∈ endL) h
theorem least_quit {kd : Str} (hk : kd ∈ kindsOf "quit") : ∀ r, LeastP kd ["quit"] dsQ [] r → r = none
  | none, _ => rfl
  | some n, ⟨h, _⟩ => by
    rcases h with ⟨row, h, hn⟩ | ⟨ls, hw, h⟩
    · cases n with
      | zero => cases h; exact absurd hk hn
      | succ n => cases h
    · rw [way_quit hw] at h
      have : wayGoP dsQ [0] (fun _ => 0) = none := by kernel_rfl
      rw [this] at h; cases h
theorem quit_put : ("put" : Str) ∈ kindsOf "quit" := by decide +kernel
theorem quit_set : ("set" : Str) ∈ kindsOf "quit" := by decide +kernel
end IdL
namespace IdL
open PySem L2 TL
/-! ### the law's own reading of pages -/
abbrev sLr : Stmt := top 118
abbrev sDp : Stmt := top 119
abbrev sIs : Stmt := top 121
abbrev sSp5 : Stmt := top 122
theorem scLr : FnScope ["_law_unit", "_law_length"] ["_law_unit", "_law_length"] (defScope sLr) := ⟨rfl, rfl, rfl, by decide +kernel, rfl, by decide +kernel, by decide +kernel⟩
def NIs : List Str := ["_law_told_here", "_law_page", "_law_head", "_law_slot", "_law_unit", "_law_most", "_law_size", "_law_low", "_law_row", "_law_record", "_law_held", "_law_k", "_law_at", "_law_length", "_law_other"]
theorem scIs : FnScope NIs ["_law_told_here", "_law_page"] (defScope sIs) := ⟨rfl, rfl, rfl, by decide +kernel, rfl, by decide +kernel, by decide +kernel⟩
structure FLr (K : PySem.W.Frag) (mg : Str → Option Value) (f : Addr) (d : FuncData) : Prop where
  u : Fun K "_law_room" "_law_room" sLr f d
  b : Binds K d ["_law_unit", "_law_length"] []
  g : mg "_law_room" = some (.ref f)
structure FIs (K : PySem.W.Frag) (mg : Str → Option Value) (f : Addr) (d : FuncData) : Prop where
  u : Fun K "_law_is_right" "_law_is_right" sIs f d
  b : Binds K d ["_law_told_here", "_law_page"] []
  g : mg "_law_is_right" = some (.ref f)
def spLr : Sp := fun vs H Q _ => ∃ un n : Int, vs = [.int un, .int n] ∧ 1 ≤ un ∧ un ≤ 1000 ∧ n.natAbs < 2 ^ 50 ∧ Q (.int (roomI un n)) H
/-- the rules' numbers as the law tells them -/
def NumAt (H : Hp) (ta : Addr) (r : Ru) : Prop := H ta = some (.tup [.int r.hd, .int r.sl, .int r.un, mostV r.ms])
def spIs : Sp := fun vs H Q _ => ∃ (ta : Addr) (r : Ru) (pg : V) (s low : Int) (rs : List (Option Rec)), vs = [.ref ta, pg] ∧ NumAt H ta r ∧ RuOk r ∧ PgAt H pg s low rs ∧ SmallR rs ∧ ∀ b H', (b = true ↔ RightPage r s low rs) → Same H H' → Q (.bl b) H'
theorem HeldV.get {H : Hp} : ∀ {vs : List V} {ps : List Rec}, HeldV H vs ps → ∀ {i : Nat} {p : Rec}, ps[i]? = some p → ∃ t, vs[i]? = some (.ref t) ∧ H t = some (.tup [.int p.1, .int p.2])
  | _, _, .cons (t := t) h r, 0, p, e => by cases e; exact ⟨t, rfl, h⟩
  | _, _, .cons h r, i + 1, p, e => r.get (i := i) e
section
variable {P : Program} {w : World} {K : PySem.W.Frag} {mg : Str → Option Value} {base : Heap}
theorem ok_lr {f : Addr} {fd : FuncData} (F : Fun K "_law_room" "_law_room" sLr f fd) (T : Gv mg) : FnOk P w K mg base CX0 1 f fd ["_law_unit", "_law_length"] spLr := by
  refine F.ok scLr (fun vs H Q E h => ?_) (fun cdv A outer s H vs Q E hr h => ?_)
  · obtain ⟨un, n, rfl, _⟩ := h
    rfl
  · obtain ⟨un, n, rfl, u1, u2, nb, k⟩ := h
    refine ⟨_, (pss_one (ps_ret (pe_op op_mul (pe_op op_fdivW (pe_callTy call_int1 (by rfl) T.int (by decide +kernel) (pa_cons (pe_op op_sub (pe_op op_add (pv 1) (pv 0)) pe_int) pa_nil)) (pv 0)) (pv 0)))), ?_⟩
    rw [← room_alt u1] at k
    refine ⟨_, rfl, _, rfl, _, _, rfl, rfl, _, _, rfl, rfl, .inl ⟨_, rfl, _, rfl, _, _, rfl, rfl, wide_div (b := 60) (by omega) (by omega) (by decide) (by decide), _, rfl, _, _, rfl, rfl, .inr ⟨by omega, by omega⟩, k⟩⟩
theorem ok_is {f fR : Addr} {fd dR : FuncData} (F : Fun K "_law_is_right" "_law_is_right" sIs f fd) (LR : FLr K mg fR dR) (OR : FnOk P w K mg base CX0 1 fR dR ["_law_unit", "_law_length"] spLr) (T : Gv mg) : FnOk P w K mg base CX0 2 f fd ["_law_told_here", "_law_page"] spIs := by
  refine F.ok scIs (fun vs H Q E h => ?_) (fun cdv A outer s H vs Q E hr h => ?_)
  · obtain ⟨ta, r, pg, sz, low, rs, rfl, _⟩ := h
    rfl
  · obtain ⟨ta, r, pg, sz, low, rs, rfl, hta, R, PA, S, k⟩ := h
    refine ⟨_, (pss_cons (ps_asg (pv 0) (pg_tup rfl (pgs_cons (pg_name (i := 2) scIs.nd rfl (.inl rfl)) (pgs_cons (pg_name (i := 3) scIs.nd rfl (.inl rfl)) (pgs_cons (pg_name (i := 4) scIs.nd rfl (.inl rfl)) (pgs_cons (pg_name (i := 5) scIs.nd rfl (.inl rfl)) pgs_nil))))))
 (pss_cons (ps_asg (pv 1) (pg_tup rfl (pgs_cons (pg_name (i := 6) scIs.nd rfl (.inl rfl)) (pgs_cons (pg_name (i := 7) scIs.nd rfl (.inl rfl)) (pgs_cons (pg_name (i := 8) scIs.nd rfl (.inl rfl)) pgs_nil)))))
 (pss_join (ps_if (PW.pt (pw_or (pt_cmpR op_lt (pv 6) pe_int (nomark _)) (pw_or (pt_cmpR op_lt (pv 6) (pv 2) (nomark _)) (pw_or (pt_cmpR op_gt (pe_op op_modN (pv 6) (pv 4)) pe_int (nomark _)) (pw_or1 (PW.pt (pw_and (pt_cmpR op_notN (pv 5) pe_non (nomark _)) (pw_and1 (PW.pt (pw_or (pt_cmpR op_gt (pv 6) (pe_op op_add (pv 5) pe_int) (nomark _)) (pw_or1 (pt_cmpR op_gt (pv 7) (pv 5) (nomark _))))))))))))) (pss_one (ps_ret pe_bl)) pss_nil)
 (pss_join (ps_if (PW.pt (pw_or (pt_cmpR op_gt (pe_op op_add (pv 2) (pe_op op_mul (pv 3) (pe_callB call_len_seq (by rfl) T.len PySem.boot_len (pa_cons (pv 8) pa_nil)))) (pv 7) (nomark _)) (pw_or (pt_cmpR op_gt (pv 7) (pv 6) (nomark _)) (pw_or1 (pt_cmpR op_gt (pe_op op_modN (pv 7) (pv 4)) pe_int (nomark _)))))) (pss_one (ps_ret pe_bl)) pss_nil)
 (pss_cons (ps_setLc (i := 10) (own := [("_law_record", 9)]) (g := (gName 9)) (by rfl) scIs.nd rfl rfl (sw_true rfl rfl rfl (by decide +kernel)) (pi_tup (pv 8)) (blkOk_by (N := NIs) (sc := defScope sIs) (by decide +kernel)) (fun _ _ _ _ _ => (pg_name (i := 9) scIs.nd rfl (.inl rfl))) (fun _ _ _ _ _ => (pts_one (pt_cmpR op_notN (pv 9) pe_non (nomark _)))) (fun _ _ _ _ _ => (pv 9)))
 (pss_cons (ps_for PassesOwn.never rfl (pi_range1 (by rfl) T.range (pa_cons (pe_callB call_len_seq (by rfl) T.len PySem.boot_len (pa_cons (pv 10) pa_nil)) pa_nil)) (pg_name (i := 11) scIs.nd rfl (.inl rfl)) (pss_cons (ps_asg (pe_ix ix_list (pv 10) (pv 11) (fun _ _ => rfl)) (pg_tup rfl (pgs_cons (pg_name (i := 12) scIs.nd rfl (.inl rfl)) (pgs_cons (pg_name (i := 13) scIs.nd rfl (.inl rfl)) pgs_nil))))
 (pss_cons (ps_if (PW.pt (pw_or (pt_cmpR op_lt (pv 13) pe_int (nomark _)) (pw_or (pt_cmpR op_gt (pe_op op_modN (pv 12) (pv 4)) pe_int (nomark _)) (pw_or (pt_cmpR op_lt (pv 12) (pv 7) (nomark _)) (pw_or1 (pt_cmpR op_gt (pe_op op_add (pv 12) (pe_call OR hr rfl LR.g LR.u.kp LR.b .nil pass0 (pa_cons (pv 4) (pa_cons (pv 13) pa_nil)))) (pv 6) (nomark _))))))) (pss_one (ps_ret pe_bl)) pss_nil)
 (pss_one (ps_for PassesOwn.never rfl (pi_list (pe_slice sl_list (pv 10) po_none (po_some (pv 11)))) (pg_name (i := 14) scIs.nd rfl (.inl rfl)) (pss_one (ps_if (PW.pt (pw_and (pt_cmpR op_lt (pv 12) (pe_op op_add (pe_ix ix_tup (pv 14) pe_int (fun _ _ => rfl)) (pe_call OR hr rfl LR.g LR.u.kp LR.b .nil pass0 (pa_cons (pv 4) (pa_cons (pe_ix ix_tup (pv 14) pe_int (fun _ _ => rfl)) pa_nil)))) (nomark _)) (pw_and1 (pt_cmpR op_lt (pe_ix ix_tup (pv 14) pe_int (fun _ _ => rfl)) (pe_op op_add (pv 12) (pe_call OR hr rfl LR.g LR.u.kp LR.b .nil pass0 (pa_cons (pv 4) (pa_cons (pv 13) pa_nil)))) (nomark _))))) (pss_one (ps_ret pe_bl)) pss_nil)))))))
 (pss_one (ps_ret pe_bl)))))))), ?_⟩
    have u0 := R.un0
    have u1 := R.un1
    have l0 := R.sl0
    have l1 := R.sl1
    obtain ⟨p, ra, rfl, hp, xs, hx, rv⟩ := PA
    have no : ¬ RightPage r sz low rs → ∀ H', Same H H' → Q (.bl false) H' := fun n H' s' => k _ _ ⟨(fun z => nomatch z), fun z => absurd z n⟩ s'
    have no0 : ¬ RightPage r sz low rs → Q (.bl false) H := fun n => no n H (Same.refl H)
    refine ⟨_, rfl, ta, _, rfl, SqT.of hta, rfl, _, _, rfl, _, _, rfl, _, _, rfl, _, _, rfl, rfl, ?_⟩
    refine ⟨_, rfl, p, _, rfl, SqT.of hp, rfl, _, _, rfl, _, _, rfl, _, _, rfl, rfl, ?_⟩
    have fm : ∀ n : Int, n.fmod r.un = n % r.un := fun n => Int.fmod_eq_emod_of_nonneg n (by omega)
    have pm : ∀ n : Int, 0 ≤ n % r.un := fun n => Int.emod_nonneg n (by omega)
    have iu : RightPage r sz low rs → sz % r.un = 0 ∧ r.hd ≤ sz ∧ ∀ m, r.ms = some m → sz ≤ m + 1 := fun z => by
      have h := z.2.1
      unfold inUse at h
      obtain ⟨h1, h2⟩ := Bool.and_eq_true_iff.mp h
      rw [Bool.not_eq_true', Bool.or_eq_false_iff, decide_eq_false_iff_not, decide_eq_false_iff_not] at h1
      refine ⟨by omega, by omega, fun m e => ?_⟩
      rw [e] at h2
      exact of_decide_eq_true h2
    refine ⟨fun σ G => σ = [some (.ref ta), some (.ref p), some (.int r.hd), some (.int r.sl), some (.int r.un), some (mostV r.ms), some (.int sz), some (.int low), some (.ref ra), none, none, none, none, none, none] ∧ G = H ∧ 1 ≤ sz ∧ inUse r sz = true ∧ ∀ m, r.ms = some m → low ≤ m, ?_, ?_⟩
    · refine ⟨_, rfl, _, _, rfl, rfl, _, rfl, ?_⟩
      by_cases c1 : sz < 1
      · exact iteY c1 (no0 fun z => by have := z.1.1; omega)
      refine iteN c1 ⟨_, rfl, _, rfl, _, _, rfl, rfl, _, rfl, ?_⟩
      by_cases c2 : sz < r.hd
      · exact iteY c2 (no0 fun z => by have := (iu z).2.1; omega)
      refine iteN c2 ⟨_, rfl, _, rfl, _, _, rfl, rfl, (by show r.un ≠ 0; omega), _, _, rfl, rfl, _, rfl, ?_⟩
      by_cases c3 : 0 < sz.fmod r.un
      · exact iteY c3 (no0 fun z => by have := (iu z).1; rw [fm] at c3; omega)
      have e3 : sz % r.un = 0 := by rw [fm] at c3; have := pm sz; omega
      refine iteN c3 ⟨_, rfl, rfl, _, rfl, ?_⟩
      cases hm : r.ms with
      | none =>
        refine iteNS rfl ⟨rfl, rfl, by omega, ?_, fun m e => by cases e⟩
        unfold inUse
        rw [hm, decide_eq_false (fun y => y e3), decide_eq_false c2]; rfl
      | some m =>
        refine iteNN (fun z => nomatch z) ⟨_, rfl, _, rfl, m, 1, rfl, rfl, sz, m + 1, rfl, rfl, _, rfl, ?_⟩
        by_cases c4 : m + 1 < sz
        · exact iteY c4 (no0 fun z => by have := (iu z).2.2 m hm; omega)
        refine iteN c4 ⟨_, rfl, _, rfl, low, m, rfl, rfl, _, rfl, ?_⟩
        by_cases c5 : m < low
        · exact iteY c5 (no0 fun z => by have := z.2.2.2.2.2.1 m hm; omega)
        refine iteN c5 ⟨rfl, rfl, by omega, ?_, fun m' e => by cases e; omega⟩
        unfold inUse
        rw [hm, decide_eq_false (fun y => y e3), decide_eq_false c2]
        exact decide_eq_true (by omega)
    rintro σ G ⟨rfl, rfl, hs1, hiu, hlm⟩
    refine ⟨fun σ G' => σ = [some (.ref ta), some (.ref p), some (.int r.hd), some (.int r.sl), some (.int r.un), some (mostV r.ms), some (.int sz), some (.int low), some (.ref ra), none, none, none, none, none, none] ∧ G' = G ∧ edgeR r rs.length ≤ low ∧ low ≤ sz ∧ low % r.un = 0, ?_, ?_⟩
    · refine ⟨_, rfl, _, rfl, _, rfl, ra, xs, rfl, .inr (SqT.of hx), _, _, rfl, rfl, .inl ⟨by omega, by omega⟩, _, _, rfl, rfl, _, rfl, _, _, rfl, rfl, _, rfl, ?_⟩
      rw [rv.len]
      by_cases c1 : low < r.hd + r.sl * ((rs.length : Nat) : Int)
      · exact iteY c1 (no0 fun z => by have := z.2.2.1; unfold edgeR at this; omega)
      refine iteN c1 ⟨_, rfl, _, rfl, _, _, rfl, rfl, _, rfl, ?_⟩
      by_cases c2 : sz < low
      · exact iteY c2 (no0 fun z => by have := z.2.2.2.1; omega)
      refine iteN c2 ⟨_, rfl, _, rfl, _, _, rfl, rfl, (by show r.un ≠ 0; omega), _, _, rfl, rfl, _, rfl, ?_⟩
      by_cases c3 : 0 < low.fmod r.un
      · exact iteY c3 (no0 fun z => by have := z.2.2.2.2.1; rw [fm] at c3; omega)
      exact iteN c3 ⟨rfl, rfl, by unfold edgeR; omega, by omega, by rw [fm] at c3; have := pm low; omega⟩
    rintro σ G' ⟨rfl, rfl, hed, hls, hlu⟩
    refine ⟨_, rfl, ra, rfl, ⟨_, SqT.of hx⟩, fun D hD => lc_tup (K := K) (a := ra) (xs := xs) (fun i G => Same G' G ∧ ∃ acc, G D = some (.lst acc) ∧ HeldV G' acc (heldR (rs.take i))) ⟨same_new hD, [], upd_same, .nil⟩ (fun i G _ ⟨sG, _⟩ => SqT.of (sG _ _ hx)) ?_ ?_⟩
    · rintro i y G hi ⟨sG, acc, hG, hv⟩
      obtain ⟨q, hq, hy⟩ := rv.get hi
      have hi' := (List.getElem?_eq_some_iff.mp hq).1
      have ln := S.len
      have lh := held_len (rs.take i)
      rw [List.length_take, ← hv.len] at lh
      refine ⟨rfl, _, rfl, rfl, _, rfl, ?_⟩
      cases hy with
      | non =>
        refine iteNS rfl ⟨sG, acc, hG, ?_⟩
        rw [held_take_none hq]; exact hv
      | @rc t a l ht =>
        refine iteNN (fun z => nomatch z) ?_
        refine ⟨_, rfl, acc, hG, (by rw [sizeLine_eq]; omega), fun c o e => ?_, _, upd_same, ?_⟩
        · rw [upd_ne (fun y => by rw [y, hD] at e; cases e)]; exact sG _ _ e
        · rw [held_take_some hq]; exact hv.snoc ht
    rintro G ⟨sG, acc, hG, hv⟩
    rw [rv.len, List.take_length] at hv
    have hv2 := hv.keep (KeepU.of sG)
    have la := hv.len
    have lh := held_len rs
    have ln := S.len
    have nm := S.num
    have rp : RightPage r sz low rs ↔ (∀ q ∈ heldR rs, 1 ≤ q.2 ∧ FitR r.un low sz q) ∧ (heldR rs).Pairwise (Apart r.un) := by
      constructor
      · exact fun z => ⟨fun q hq => ⟨z.1.2 q hq, z.2.2.2.2.2.2.1 q hq⟩, z.2.2.2.2.2.2.2⟩
      · exact fun z => ⟨⟨hs1, fun q hq => (z.1 q hq).1⟩, hiu, hed, hls, hlu, hlm, fun q hq => (z.1 q hq).2, z.2⟩
    generalize heldR rs = ps at *
    refine ⟨_, rfl, D, acc, rfl, .inl (SqL.of hG), (acc.length : Int), rfl, by omega, by omega, for_range (n := acc.length) (fun i σ G2 => ∃ v11 v12 v13 v14 : Option V, σ = [some (.ref ta), some (.ref p), some (.int r.hd), some (.int r.sl), some (.int r.un), some (mostV r.ms), some (.int sz), some (.int low), some (.ref ra), none, some (.ref D), v11, v12, v13, v14] ∧ Same G G2 ∧ (∀ q ∈ ps.take i, 1 ≤ q.2 ∧ FitR r.un low sz q) ∧ (ps.take i).Pairwise (Apart r.un))
      ⟨none, none, none, none, rfl, Same.refl _, (fun q h => absurd h List.not_mem_nil), .nil⟩ ?_ ?_⟩
    · rintro i σ G2 hi ⟨v11, v12, v13, v14, rfl, s2, h1, h2⟩
      have hip : i < ps.length := by omega
      obtain ⟨q, hq⟩ : ∃ q, ps[i]? = some q := ⟨ps[i], List.getElem?_eq_getElem hip⟩
      have mq : q ∈ ps := List.mem_of_getElem? hq
      obtain ⟨t, hat, htt⟩ := hv2.get hq
      obtain ⟨n1, n2⟩ := nm q mq
      have sA := sG.trans s2
      rw [show ((0 : Int) + (i : Int)) = (i : Int) from by omega]
      have ht2 := s2 _ _ htt
      have hG2 := s2 _ _ hG
      refine ⟨_, rfl, _, rfl, D, acc, _, _, rfl, rfl, SqL.of hG2, atI_nat hat, t, _, rfl, SqT.of ht2, rfl, _, _, rfl, _, _, rfl, rfl, ?_⟩
      have bad : ¬ (1 ≤ q.2 ∧ FitR r.un low sz q) → Q (.bl false) G2 := fun y => no (fun z => y ((rp.mp z).1 q mq)) G2 sA
      refine ⟨_, rfl, _, _, rfl, rfl, _, rfl, ?_⟩
      by_cases c1 : q.2 < 1
      · exact iteY c1 (bad fun z => by have := z.1; omega)
      refine iteN c1 ⟨_, rfl, _, rfl, _, _, rfl, rfl, (by show r.un ≠ 0; omega), _, _, rfl, rfl, _, rfl, ?_⟩
      by_cases c2 : 0 < q.1.fmod r.un
      · exact iteY c2 (bad fun z => by have := z.2.1; rw [fm] at c2; omega)
      refine iteN c2 ⟨_, rfl, _, rfl, _, _, rfl, rfl, _, rfl, ?_⟩
      by_cases c3 : q.1 < low
      · exact iteY c3 (bad fun z => by have := z.2.2.1; omega)
      refine iteN c3 ⟨_, rfl, _, rfl, _, rfl, r.un, q.2, rfl, u0, by omega, n2, _, _, rfl, rfl, _, rfl, _, _, rfl, rfl, _, rfl, ?_⟩
      by_cases c4 : sz < q.1 + roomI r.un q.2
      · exact iteY c4 (bad fun z => by have := z.2.2.2; unfold endR at this; omega)
      refine iteN c4 ?_
      have good : 1 ≤ q.2 ∧ FitR r.un low sz q := ⟨by omega, by rw [fm] at c2; have := pm q.1; omega, by omega, by unfold endR; omega⟩
      refine ⟨_, rfl, _, rfl, _, rfl, D, acc, rfl, SqL.of hG2, fun qa nqa => ?_⟩
      have ec : cutV acc none (some ((i : Nat) : Int)) = acc.take i := cut_to _ _
      rw [ec]
      have s3 : Same G2 (upd G2 qa (.lst (acc.take i))) := same_new nqa
      have h3 : upd G2 qa (.lst (acc.take i)) qa = some (.lst (acc.take i)) := upd_same
      generalize upd G2 qa (.lst (acc.take i)) = G3 at *
      have sB := sA.trans s3
      have lt : (acc.take i).length = i := by rw [List.length_take]; omega
      refine ⟨qa, rfl, ⟨_, SqL.of h3⟩, for_list (K := K) (a := qa) (xs := acc.take i) (fun j σ G4 => ∃ v14 : Option V, σ = [some (.ref ta), some (.ref p), some (.int r.hd), some (.int r.sl), some (.int r.un), some (mostV r.ms), some (.int sz), some (.int low), some (.ref ra), none, some (.ref D), some (.int (i : Int)), some (.int q.1), some (.int q.2), v14] ∧ Same G3 G4 ∧ ∀ x ∈ (ps.take i).take j, Apart r.un x q)
        ⟨v14, rfl, Same.refl _, (fun x h => absurd h List.not_mem_nil)⟩ (fun j σ G4 _ ⟨_, _, s4, _⟩ => SqL.of (s4 _ _ h3)) ?_ ?_⟩
      · rintro j y σ G4 hj ⟨v14, rfl, s4, ap⟩
        have hji : j < i := by have := (List.getElem?_eq_some_iff.mp hj).1; omega
        have hjp : j < ps.length := by omega
        obtain ⟨x, hx'⟩ : ∃ x, ps[j]? = some x := ⟨ps[j], List.getElem?_eq_getElem hjp⟩
        have hxt : (ps.take i)[j]? = some x := by rw [List.getElem?_take_of_lt hji]; exact hx'
        obtain ⟨tx, hat', htx⟩ := hv2.get hx'
        rw [List.getElem?_take_of_lt hji, hat'] at hj
        cases hj
        obtain ⟨m1, m2⟩ := nm x (List.mem_of_getElem? hx')
        have sC := sB.trans s4
        have ht4 := s4 _ _ (s3 _ _ (s2 _ _ htx))
        have next : Apart r.un x q → ∀ y ∈ (ps.take i).take (j + 1), Apart r.un y q := fun a y hy => by
          rw [List.take_add_one, hxt] at hy
          rcases List.mem_append.mp hy with h | h
          · exact ap y h
          · rw [List.mem_singleton.mp h]; exact a
        refine ⟨_, rfl, _, rfl, tx, _, 0, _, rfl, rfl, SqT.of ht4, atI_nat (j := 0) rfl, _, rfl, _, rfl, tx, _, 1, _, rfl, rfl, SqT.of ht4, atI_nat (j := 1) rfl, r.un, x.2, rfl, u0, by omega, m2, _, _, rfl, rfl, _, _, rfl, rfl, _, rfl, ?_⟩
        by_cases c5 : q.1 < x.1 + roomI r.un x.2
        · refine iteY c5 ⟨_, rfl, tx, _, 0, _, rfl, rfl, SqT.of ht4, atI_nat (j := 0) rfl, _, rfl, _, rfl, _, rfl, r.un, q.2, rfl, u0, by omega, n2, _, _, rfl, rfl, _, _, rfl, rfl, _, rfl, ?_⟩
          by_cases c6 : x.1 < q.1 + roomI r.un q.2
          · refine iteY c6 (no (fun z => ?_) G4 sC)
            have := List.pairwise_iff_getElem.mp (rp.mp z).2 j i hjp hip hji
            rw [show ps[j] = x from (List.getElem?_eq_some_iff.mp hx').2, show ps[i] = q from (List.getElem?_eq_some_iff.mp hq).2] at this
            rcases this with h | h <;> unfold endR at h <;> omega
          · exact iteN c6 ⟨_, rfl, s4, next (.inr (by unfold endR; omega))⟩
        · exact iteN c5 ⟨_, rfl, s4, next (.inl (by unfold endR; omega))⟩
      · rintro σ G4 ⟨v14, rfl, s4, ap⟩
        rw [lt, List.take_take, Nat.min_self] at ap
        refine ⟨_, _, _, _, rfl, s2.trans (s3.trans s4), fun x hx' => ?_, ?_⟩
        · rw [List.take_add_one, hq] at hx'
          rcases List.mem_append.mp hx' with h | h
          · exact h1 x h
          · rw [List.mem_singleton.mp h]; exact good
        · rw [List.take_add_one, hq]
          refine List.pairwise_append.mpr ⟨h2, List.pairwise_singleton _ _, fun x hx' y hy => ?_⟩
          rw [List.mem_singleton.mp hy]
          exact ap x hx'
    · rintro σ G2 ⟨v11, v12, v13, v14, rfl, s2, h1, h2⟩
      rw [la, List.take_length] at h1 h2
      exact k true G2 ⟨fun _ => rp.mpr ⟨h1, h2⟩, fun _ => rfl⟩ (sG.trans s2)
end
end IdL
namespace IdL
open PySem L2 TL
/-- a bag with its cells at l -/
structure BagL (H : Hp) (b l : Addr) (n : Nat) : Prop where
  ex : ∃ (ns : List Int) (i d c f : Int), H b = some (.dK (bagL l i d c f)) ∧ H l = some (.lst (ns.map V.int)) ∧ ns.length ≤ 63 ∧ 0 ≤ i ∧ i ≤ ns.length ∧ 0 ≤ d ∧ 0 ≤ c ∧ c ≤ n ∧ 0 ≤ f ∧ f < 2147483587
theorem BagL.keep {H H' : Hp} {b l : Addr} {n : Nat} (h : BagL H b l n) (s : ∀ a o, (a = b ∨ a = l) → H a = some o → H' a = some o) : BagL H' b l n := by
  obtain ⟨ns, i, d, c, f, h1, h2, r⟩ := h.ex
  exact ⟨ns, i, d, c, f, s _ _ (.inl rfl) h1, s _ _ (.inr rfl) h2, r⟩
theorem BagL.same {H H' : Hp} {b l : Addr} {n : Nat} (h : BagL H b l n) (s : Same H H') : BagL H' b l n := h.keep fun a o _ e => s a o e
theorem BagL.more {H : Hp} {b l : Addr} {n m : Nat} (h : BagL H b l n) (s : n ≤ m) : BagL H b l m := by
  obtain ⟨ns, i, d, c, f, h1, h2, h3, h4, h5, h6, h7, h8, r⟩ := h.ex
  exact ⟨ns, i, d, c, f, h1, h2, h3, h4, h5, h6, h7, by omega, r⟩
theorem BagL.there {H : Hp} {b l : Addr} {n : Nat} (B : BagL H b l n) : H b ≠ none ∧ H l ≠ none := by
  obtain ⟨_, _, _, _, _, e, g, _⟩ := B.ex
  rw [e, g]
  exact ⟨(fun z => nomatch z), (fun z => nomatch z)⟩
def spBagL (K : PySem.W.Frag) : Sp := fun vs H Q _ => ∃ (a : Addr) (ns : List Int), vs = [.ref a] ∧ SqL K H a (ns.map V.int) ∧ ns.length ≤ 63 ∧
  ∀ (b l : Addr) (H' : Hp), H b = none → Same H H' → BagL H' b l 0 → Q (.ref b) H'
def spDrawL : Sp := fun vs H Q _ => ∃ (b l : Addr) (n : Nat) (m : Int), vs = [.ref b, .int m] ∧ BagL H b l n ∧ n < 1000000000 ∧ 1 ≤ m ∧ m ≤ 1000000000000000000000000000000 ∧
  ∀ (r : Int) (H' : Hp), 0 ≤ r → r < m → SameBut b H H' → BagL H' b l (n + 1) → Q (.int r) H'
theorem pick_map {α : Type} (f : α → V) (l : List α) {r : Int} (h0 : 0 ≤ r) (h1 : r < l.length) : ∃ a ∈ l, atI (l.map f) r = some (f a) := by
  obtain ⟨j, rfl⟩ : ∃ j : Nat, r = j := ⟨r.toNat, by omega⟩
  have hj : j < l.length := by omega
  refine ⟨l[j], List.getElem_mem hj, atI_nat ?_⟩
  rw [List.getElem?_map, List.getElem?_eq_getElem hj]; rfl
section
variable {P : Program} {w : World} {K : PySem.W.Frag} {mg : Str → Option Value} {base : Heap}
theorem ok_bagL {f : Addr} {fd : FuncData} (F : Fun K "_law_bag" "_law_bag" sBag f fd) (T : Glob mg) : FnOk P w K mg base CX0 1 f fd ["_law_script"] (spBagL K) := by
  refine F.ok scB (fun vs H Q E h => ?_) (fun cdv A outer s H vs Q E hr h => ?_)
  · obtain ⟨a, ns, rfl, _⟩ := h
    rfl
  · obtain ⟨a, ns, rfl, hS, hlen, k⟩ := h
    refine ⟨_, pss_cons (ps_set (i := 1) scB.nd rfl (.inl rfl) pe_int)
      (pss_cons (ps_for PassesOwn.never rfl (pi_list (pv 0)) (pg_name (i := 2) scB.nd rfl (.inl rfl))
        (pss_one (ps_set (i := 1) scB.nd rfl (.inl rfl) (pe_op op_mod (pe_callTy call_int1 (by rfl) T.int (by decide +kernel) (pa_cons (pe_op op_add (pe_op op_mul (pv 1) pe_int) (pv 2)) pa_nil)) pe_int))))
      (pss_one (ps_ret (pe_disp (pps_cons pe_str (pe_callTy call_list_of (by rfl) T.list (by decide +kernel) (pa_cons (pv 0) pa_nil)) (pps_cons pe_str pe_int (pps_cons pe_str pe_int (pps_cons pe_str pe_int (pps_cons pe_str (pv 1) pps_nil)))))
        (by rfl) (by rfl) (fun z => by cases z) (by decide))))), ?_⟩
    refine ⟨_, rfl, a, rfl, ⟨_, hS⟩, for_list (K := K) (a := a) (xs := ns.map V.int) (fun i σ H2 => ∃ (f : Int) (v : Option V), σ = [some (.ref a), some (.int f), v] ∧ H2 = H ∧ 0 ≤ f ∧ f < 1000000007) ⟨0, none, rfl, rfl, by decide, by decide⟩ (fun i σ H2 _ ⟨_, _, _, e, _⟩ => by rw [e]; exact hS) ?_ ?_⟩
    · rintro i y σ H2 hi ⟨f, v, rfl, rfl, h1, h2⟩
      obtain ⟨z, rfl⟩ : ∃ z, y = V.int z := by
        rw [List.getElem?_map] at hi
        cases e : ns[i]? with
        | none => rw [e] at hi; cases hi
        | some z => rw [e] at hi; exact ⟨z, (Option.some.inj hi).symm⟩
      refine ⟨_, rfl, _, _, rfl, rfl, .inl ⟨by omega, by omega⟩, _, rfl, _, _, rfl, rfl, .inl ⟨_, rfl, _, _, rfl, rfl, (by show (0 : Int) < 1000000007; decide), _, some (.int z), rfl, rfl, Int.emod_nonneg _ (by decide), Int.emod_lt_of_pos _ (by decide)⟩⟩
    · rintro σ H2 ⟨f, v, rfl, rfl, h1, h2⟩
      intro p hp
      refine ⟨_, rfl, a, _, rfl, .inl ((same_new hp).seq hS), fun l hl => ?_⟩
      have lp : p ≠ l := fun z => by rw [z, upd_same] at hl; cases hl
      have Hl : H2 l = none := by rw [← hl]; exact (upd_ne (Ne.symm lp)).symm
      refine ⟨_, rfl, ?_⟩
      refine ⟨by rw [upd_ne lp, upd_same], bagL l 0 0 0 f, rfl, (by show 5 ≤ 15; decide), ?_⟩
      rw [merge_bag]
      refine k p l _ hp (fun c o e => ?_) ⟨ns, 0, 0, 0, f, upd_same, by rw [upd_ne (Ne.symm lp), upd_same], hlen, by decide, by omega, by decide, by decide, by decide, h1, by omega⟩
      rw [upd_ne (ne_of_none e hp), upd_ne (ne_of_none e Hl), upd_ne (ne_of_none e hp)]
      exact e
theorem ok_drawL {f : Addr} {fd : FuncData} (F : Fun K "_law_draw" "_law_draw" sDraw f fd) (T : Glob mg) : FnOk P w K mg base CX0 1 f fd ["_law_bag_here", "_law_limit"] spDrawL := by
  refine F.ok scD (fun vs H Q E h => ?_) (fun cdv A outer s H vs Q E hr h => ?_)
  · obtain ⟨b, l, n, m, rfl, _⟩ := h
    rfl
  · obtain ⟨b, l, n, m, rfl, B, hn, hm1, hm2, k⟩ := h
    have hu := hu_of hr
    obtain ⟨ns, i, d, c, fo, hb, hl, hlen, hi0, hi1, hd0, hc0, hc1, hf0, hf1⟩ := B.ex
    have nbl : b ≠ l := ne_of hb hl (by intro z; cases z)
    refine ⟨_, pss_cons (ps_dput hu (pv 0) pe_str (pe_op op_add (pe_dget hu (pv 0) pe_str (fun _ _ => rfl)) pe_int) rfl)
      (pss_join (ps_if (PW.pt (pw_and (pt_cmpR op_eq (pe_dget hu (pv 0) pe_str (fun _ _ => rfl)) pe_int (nomark _)) (pw_and1 (pt_cmpR op_lt (pe_dget hu (pv 0) pe_str (fun _ _ => rfl)) (pe_callB call_len (by rfl) T.len PySem.boot_len (pa_cons (pe_dget hu (pv 0) pe_str (fun _ _ => rfl)) pa_nil)) (nomark _)))))
        (pss_cons (ps_set (i := 2) scD.nd rfl (.inl rfl) (pe_ix ix_list (pe_dget hu (pv 0) pe_str (fun _ _ => rfl)) (pe_dget hu (pv 0) pe_str (fun _ _ => rfl)) (fun _ _ => rfl)))
        (pss_cons (ps_dput hu (pv 0) pe_str (pe_op op_add (pe_dget hu (pv 0) pe_str (fun _ _ => rfl)) pe_int) rfl)
        (pss_one (ps_if (pt_cmpR op_ge (pv 2) (pe_op op_pow pe_int pe_int) (nomark _))
          (pss_one (ps_dput hu (pv 0) pe_str (pe_op op_sub (pv 2) (pe_op op_pow pe_int pe_int)) rfl))
          (pss_one (ps_dput hu (pv 0) pe_str (pe_op op_mod (pe_callTy call_int1 (by rfl) T.int (by decide +kernel) (pa_cons (pe_op op_add (pe_op op_mul (pe_dget hu (pv 0) pe_str (fun _ _ => rfl)) pe_int) (pv 2)) pa_nil)) pe_int) rfl)))))) pss_nil)
      (pss_cons (ps_if (pt_cmpR op_gt (pe_dget hu (pv 0) pe_str (fun _ _ => rfl)) pe_int (nomark _))
        (pss_cons (ps_set (i := 3) scD.nd rfl (.inl rfl) (pe_op op_modN (pe_callTy call_int1 (by rfl) T.int (by decide +kernel) (pa_cons (pe_dget hu (pv 0) pe_str (fun _ _ => rfl)) pa_nil)) (pv 1)))
        (pss_cons (ps_dput hu (pv 0) pe_str (pe_op op_fdivW (pe_dget hu (pv 0) pe_str (fun _ _ => rfl)) (pv 1)) rfl)
        (pss_one (ps_ret (pv 3))))) pss_nil)
      (pss_cons (ps_set (i := 4) scD.nd rfl (.inl rfl) (pe_op op_add (pe_op op_add (pe_dget hu (pv 0) pe_str (fun _ _ => rfl)) (pe_op op_mul (pe_dget hu (pv 0) pe_str (fun _ _ => rfl)) pe_int)) pe_int))
      (pss_cons (ps_set (i := 5) scD.nd rfl (.inl rfl) (pe_op op_fdiv (pe_callTy call_int1 (by rfl) T.int (by decide +kernel) (pa_cons (pe_op op_mod (pe_op op_pow (pv 4) pe_int) pe_int) pa_nil)) pe_int))
      (pss_one (ps_ret (pe_ifExp (pt_cmpR op_lt (pv 1) (pe_op op_pow pe_int pe_int) (nomark _)) (pe_op op_modN (pv 5) (pv 1))
        (pe_op op_modN (pe_callTy call_int1 (by rfl) T.int (by decide +kernel) (pa_cons (pe_op op_pow (pv 5) pe_int) pa_nil)) (pv 1))))))))), ?_⟩
    -- count
    refine ⟨_, rfl, b, _, rfl, get_count hb, _, _, rfl, rfl, _, rfl, b, _, rfl, DPut.k (k := (Sum.inr "count" : Key)) hb small15, ?_⟩
    rw [put_count]
    generalize hc' : c + 1 = c'
    generalize hH1 : upd H b (.dK (bagL l i d c' fo)) = H1
    have hb1 : H1 b = some (.dK (bagL l i d c' fo)) := by rw [← hH1, upd_same]
    have s1 : SameBut b H H1 := fun a o na e => by rw [← hH1, upd_ne na]; exact e
    have up1 : ∀ o, upd H1 b o = upd H b o := fun o => by rw [← hH1, upd_bag]
    -- behind the if: the bag again, with other digits, place, fold
    refine ⟨fun σ H2 => ∃ (i d fo : Int) (v : Option V), σ = [some (.ref b), some (.int m), v, none, none, none] ∧ H2 b = some (.dK (bagL l i d c' fo)) ∧ SameBut b H H2 ∧ 0 ≤ i ∧ i ≤ ns.length ∧ 0 ≤ d ∧ 0 ≤ fo ∧ fo < 2147483587, ?_, ?_⟩
    · refine ⟨_, rfl, b, _, rfl, get_digits hb1, rfl, _, rfl, ?_⟩
      refine ite2 (fun e0 => ?_) (fun _ => ⟨i, d, fo, none, rfl, hb1, s1, hi0, hi1, hd0, hf0, hf1⟩)
      refine ⟨_, rfl, b, _, rfl, get_at hb1, _, rfl, b, _, rfl, get_cells hb1, _, ns.length, rfl, .inl ⟨_, SqL.of (s1 l _ nbl.symm hl), (by simp)⟩, _, _, rfl, rfl, _, rfl, ?_⟩
      refine ite2 (fun e1 => ?_) (fun _ => ⟨i, d, fo, none, rfl, hb1, s1, hi0, hi1, hd0, hf0, hf1⟩)
      have e1' : i < ns.length := of_decide_eq_true e1
      obtain ⟨a, rfl⟩ : ∃ a : Nat, i = a := ⟨i.toNat, by omega⟩
      have ha : a < ns.length := by omega
      obtain ⟨z, hz⟩ : ∃ z, ns[a]? = some z := ⟨ns[a], List.getElem?_eq_getElem ha⟩
      refine ⟨_, rfl, b, _, rfl, get_cells hb1, _, rfl, b, _, rfl, get_at hb1, l, _, _, .int z, rfl, rfl, SqL.of (s1 l _ nbl.symm hl), atI_nat (by rw [List.getElem?_map, hz]; rfl), ?_⟩
      refine ⟨_, rfl, b, _, rfl, get_at hb1, _, _, rfl, rfl, _, rfl, b, _, rfl, DPut.k (k := (Sum.inr "at" : Key)) hb1 small15, ?_⟩
      rw [put_at]
      generalize hH2 : upd H1 b (.dK (bagL l ((a : Int) + 1) d c' fo)) = H2
      have hb2 : H2 b = some (.dK (bagL l ((a : Int) + 1) d c' fo)) := by rw [← hH2, upd_same]
      have s2 : SameBut b H H2 := fun x o na e => by rw [← hH2, upd_ne na]; exact s1 x o na e
      refine ⟨_, rfl, _, _, rfl, rfl, ⟨by decide, by decide, by decide⟩, _, _, rfl, rfl, _, rfl, ?_⟩
      refine ite2 (fun g => ?_) (fun g => ?_)
      · have g' : (10 : Int) ^ (18 : Int).toNat ≤ z := of_decide_eq_true g
        refine ⟨_, rfl, _, _, rfl, rfl, ⟨by decide, by decide, by decide⟩, _, _, rfl, rfl, _, rfl, b, _, rfl, DPut.k (k := (Sum.inr "digits" : Key)) hb2 small15, ?_⟩
        rw [put_digits]
        refine ⟨(a : Int) + 1, z - (10 : Int) ^ (18 : Int).toNat, fo, _, rfl, upd_same, fun x o na e => ?_, by omega, by omega, by omega, hf0, hf1⟩
        rw [upd_ne na]
        exact s2 x o na e
      · refine ⟨_, rfl, b, _, rfl, get_fold hb2, _, _, rfl, rfl, .inl ⟨by omega, by omega⟩, _, rfl, _, _, rfl, rfl, .inl ⟨_, rfl, _, _, rfl, rfl, (by show (0 : Int) < 2147483587; decide), _, rfl, b, _, rfl, DPut.k (k := (Sum.inr "fold" : Key)) hb2 small15, ?_⟩⟩
        rw [put_fold]
        refine ⟨(a : Int) + 1, d, _, _, rfl, upd_same, fun x o na e => ?_, by omega, by omega, hd0, Int.emod_nonneg _ (by decide), Int.emod_lt_of_pos _ (by decide)⟩
        rw [upd_ne na]
        exact s2 x o na e
    · rintro σ H2 ⟨i, d, fo, v, rfl, hb2, s2, hi0, hi1, hd0, hf0, hf1⟩
      have hl2 : H2 l = some (.lst (ns.map V.int)) := s2 l _ nbl.symm hl
      refine ⟨_, rfl, b, _, rfl, get_digits hb2, _, _, rfl, rfl, _, rfl, ?_⟩
      refine ite2 (fun g => ?_) (fun g => ?_)
      · have g' : 0 < d := of_decide_eq_true g
        have hm : m.fmod 1 = m.fmod 1 := rfl
        refine ⟨_, rfl, b, _, rfl, get_digits hb2, .inl ⟨_, rfl, _, rfl, _, _, rfl, rfl, (by show m ≠ 0; omega), ?_⟩⟩
        refine ⟨_, rfl, b, _, rfl, get_digits hb2, _, rfl, _, _, rfl, rfl, wide_div (b := 120) (by omega) (by omega) (by decide) (by decide), _, rfl, b, _, rfl, DPut.k (k := (Sum.inr "digits" : Key)) hb2 small15, ?_⟩
        rw [put_digits]
        refine ⟨_, rfl, ?_⟩
        show Q (.int (d.fmod m)) _
        rw [Int.fmod_eq_emod_of_nonneg d (by omega)]
        refine k _ _ (Int.emod_nonneg _ (by omega)) (Int.emod_lt_of_pos _ (by omega)) (fun x o na e => ?_) ⟨ns, i, d / m, c', fo, upd_same, ?_, hlen, hi0, hi1, Int.ediv_nonneg hd0 (by omega), by omega, by omega, hf0, hf1⟩
        · rw [upd_ne na]
          exact s2 x o na e
        · rw [upd_ne nbl.symm]
          exact hl2
      · have fin : ∀ x : Int, 0 ≤ x → Q (.int (x.fmod m)) H2 := fun x hx => by
          rw [Int.fmod_eq_emod_of_nonneg x (by omega)]
          exact k _ _ (Int.emod_nonneg _ (by omega)) (Int.emod_lt_of_pos _ (by omega)) s2 ⟨ns, i, d, c', fo, hb2, hl2, hlen, hi0, hi1, hd0, by omega, by omega, hf0, hf1⟩
        refine ⟨_, rfl, b, _, rfl, get_fold hb2, _, rfl, b, _, rfl, get_count hb2, _, _, rfl, rfl, .inl ⟨by omega, by omega⟩, _, _, rfl, rfl, _, _, rfl, rfl, ?_⟩
        refine ⟨_, rfl, _, _, rfl, rfl, ⟨by decide, by decide, by omega⟩, _, _, rfl, rfl, (by show (0 : Int) < 2305843009213693951; decide), .inl ⟨_, rfl, _, _, rfl, rfl, ⟨by decide, by decide⟩, ?_⟩⟩
        have h0 := found_lo fo c'
        have h1 := found_hi fo c'
        refine ⟨_, rfl, _, _, rfl, rfl, ⟨by decide, by decide, by decide⟩, _, _, rfl, rfl, _, rfl, ?_⟩
        refine ite2 (fun g => ?_) (fun g => ?_)
        · exact ⟨_, rfl, _, rfl, _, _, rfl, rfl, (by show m ≠ 0; omega), fin (foundOf fo c') h0⟩
        · exact ⟨_, rfl, _, _, rfl, rfl, ⟨by decide, by decide, (show (foundOf fo c').natAbs < 2 ^ 64 by omega)⟩, .inl ⟨_, rfl, _, rfl, _, _, rfl, rfl, (by show m ≠ 0; omega), fin ((foundOf fo c') ^ 3) (pow3 h0)⟩⟩
end
end IdL
namespace IdL
open PySem L2 TL
/-! ### pages drawn -/
structure FDw (K : PySem.W.Frag) (mg : Str → Option Value) (f : Addr) (d : FuncData) : Prop where
  u : Fun K "_law_draw" "_law_draw" sDraw f d
  b : Binds K d ["_law_bag_here", "_law_limit"] []
  g : mg "_law_draw" = some (.ref f)
def NDp : List Str := ["_law_bag_here", "_law_told_here", "_law_size", "_law_head", "_law_slot", "_law_unit", "_law_many", "_law_edge", "_law_low", "_law_at", "_law_row", "_law_k", "_law_spare", "_law_room_here", "_law_length", "_law_j"]
theorem scDp : FnScope NDp ["_law_bag_here", "_law_told_here", "_law_size"] (defScope sDp) := ⟨rfl, rfl, rfl, by decide +kernel, rfl, by decide +kernel, by decide +kernel⟩
structure FDp (K : PySem.W.Frag) (mg : Str → Option Value) (f : Addr) (d : FuncData) : Prop where
  u : Fun K "_law_drawn_page" "_law_drawn_page" sDp f d
  b : Binds K d ["_law_bag_here", "_law_told_here", "_law_size"] []
  g : mg "_law_drawn_page" = some (.ref f)
/-- numbers that are not too great -/
def BndR (M : Nat) (rs : List (Option Rec)) : Prop := ∀ p : Rec, some p ∈ rs → p.1.natAbs ≤ M ∧ p.2.natAbs ≤ M
theorem bag_kind {H : Hp} {b l : Addr} {n : Nat} (B : BagL H b l n) : (∀ xs, H b ≠ some (.tup xs)) ∧ (∀ xs, H b ≠ some (.lst xs)) ∧ ∀ C dx fs, H b ≠ some (.ins C dx fs) := by
  obtain ⟨ns, i, d, c, f, h1, _⟩ := B.ex
  rw [h1]
  exact ⟨(fun _ y => nomatch y), (fun _ y => nomatch y), (fun _ _ _ y => nomatch y)⟩
theorem BagL.ku {H H' : Hp} {b l : Addr} {n : Nat} (B : BagL H b l n) (s : SameBut b H H') : KeepU H H' := fun a xs e => s a _ (fun y => (bag_kind B).1 xs (y ▸ e)) e
theorem same_but {b : Addr} {H H' : Hp} (s : Same H H') : SameBut b H H' := fun a o _ e => s a o e
theorem but_trans {b : Addr} {H H1 H2 : Hp} (s : SameBut b H H1) (t : SameBut b H1 H2) : SameBut b H H2 := fun a o n e => t a o n (s a o n e)
/-- a row on its way -/
structure DpI (H G : Hp) (b l ra : Addr) (n : Nat) (rs : List (Option Rec)) : Prop where
  but : SameBut b H G
  bag : BagL G b l n
  row : ∃ xs, G ra = some (.lst xs) ∧ RecsV G xs rs
  fr : H ra = none
  nb : ra ≠ b
  nl : ra ≠ l
theorem DpI.draw {H G G' : Hp} {b l ra : Addr} {n n' : Nat} {rs : List (Option Rec)} (h : DpI H G b l ra n rs) (s : SameBut b G G') (B : BagL G' b l n') : DpI H G' b l ra n' rs := by
  obtain ⟨xs, e, rv⟩ := h.row
  exact ⟨but_trans h.but s, B, ⟨xs, s _ _ h.nb e, rv.keep (h.bag.ku s)⟩, h.fr, h.nb, h.nl⟩
theorem DpI.same {H G G' : Hp} {b l ra : Addr} {n : Nat} {rs : List (Option Rec)} (h : DpI H G b l ra n rs) (s : Same G G') : DpI H G' b l ra n rs := h.draw (same_but s) (h.bag.same s)
theorem DpI.more {H G : Hp} {b l ra : Addr} {n n' : Nat} {rs : List (Option Rec)} (h : DpI H G b l ra n rs) (k : n ≤ n') : DpI H G b l ra n' rs := ⟨h.but, h.bag.more k, h.row, h.fr, h.nb, h.nl⟩
theorem DpI.set {H G : Hp} {b l ra : Addr} {n : Nat} {rs qs : List (Option Rec)} {ys : List V} (h : DpI H G b l ra n rs) (rv : RecsV G ys qs) : DpI H (upd G ra (.lst ys)) b l ra n qs := by
  obtain ⟨xs, e, _⟩ := h.row
  refine ⟨fun a o n e => ?_, h.bag.keep fun a o x q => ?_, ⟨ys, upd_same, rv.keep (KeepU.lst e)⟩, h.fr, h.nb, h.nl⟩
  · rw [upd_ne (fun y => by rw [y, h.fr] at e; cases e)]; exact h.but a o n e
  · rw [upd_ne (fun y => by rcases x with x | x; exact h.nb (y.symm.trans x); exact h.nl (y.symm.trans x))]; exact q
def spDp : Sp := fun vs H Q _ => ∃ (b l ta : Addr) (n : Nat) (r : Ru) (s : Int), vs = [.ref b, .ref ta, .int s] ∧ BagL H b l n ∧ n ≤ 100000 ∧ NumAt H ta r ∧ RuOk r ∧ r.hd ≤ s ∧ s ≤ 1000 ∧
  ∀ v H', SameBut b H H' → BagL H' b l (n + 60) → (v = .non ∨ ∃ low rs, PgAt H' v s low rs ∧ low.natAbs ≤ 1000000 ∧ rs.length ≤ 6 ∧ BndR 1000000 rs) → Q v H'
theorem mem_set {α : Type} {l : List α} {i : Nat} {a x : α} (h : x ∈ l.set i a) : x ∈ l ∨ x = a := by
  rcases List.mem_or_eq_of_mem_set h with h | h
  · exact .inl h
  · exact .inr h
theorem ixN_nat {n i : Nat} (h : i < n) : ixN n (i : Int) = some i := by
  unfold ixN
  rw [if_pos (by omega), if_pos (by omega), Int.toNat_natCast]
theorem RecsV.set {H : Hp} : ∀ {vs : List V} {rs : List (Option Rec)}, RecsV H vs rs → ∀ {i : Nat} {v : V} {r : Option Rec}, RecV H v r → RecsV H (vs.set i v) (rs.set i r)
  | _, _, .nil, _, _, _, _ => .nil
  | _, _, .cons h t, 0, _, _, k => .cons k t
  | _, _, .cons h t, i + 1, _, _, k => .cons h (t.set (i := i) k)
section
variable {P : Program} {w : World} {K : PySem.W.Frag} {mg : Str → Option Value} {base : Heap}
theorem ok_dp {f fD : Addr} {fd dD : FuncData} (F : Fun K "_law_drawn_page" "_law_drawn_page" sDp f fd) (DW : FDw K mg fD dD) (OD : FnOk P w K mg base CX0 1 fD dD ["_law_bag_here", "_law_limit"] spDrawL) (T : Gv mg) : FnOk P w K mg base CX0 2 f fd ["_law_bag_here", "_law_told_here", "_law_size"] spDp := by
  refine F.ok scDp (fun vs H Q E h => ?_) (fun cdv A outer s H vs Q E hr h => ?_)
  · obtain ⟨b, l, ta, n, r, sz, rfl, _⟩ := h
    rfl
  · obtain ⟨b, l, ta, n, r, sz, rfl, B, hn, hta, R, hs0, hs1, k⟩ := h
    have h0 := R.hd0
    have u0 := R.un0
    have u1 := R.un1
    have l0 := R.sl0
    have l1 := R.sl1
    obtain ⟨hd, sl, un, ms⟩ := r
    dsimp only at *
    unfold NumAt at hta
    dsimp only at hta
    refine ⟨_, (pss_cons (ps_par3 (i := 3) (j := 4) (l := 5) (by rfl) scDp.nd rfl rfl rfl (by decide) (by decide) (by decide) rfl rfl rfl (pa_cons (pe_ix ix_tup (pv 1) pe_int (fun _ _ => rfl)) (pa_cons (pe_ix ix_tup (pv 1) pe_int (fun _ _ => rfl)) (pa_cons (pe_ix ix_tup (pv 1) pe_int (fun _ _ => rfl)) pa_nil))) (by rfl))
 (pss_cons (ps_set (i := 6) scDp.nd rfl (.inl rfl) (pe_call OD hr rfl DW.g DW.u.kp DW.b .nil pass0 (pa_cons (pv 0) (pa_cons (pe_op op_add pe_int (pe_callB (cr_min rfl) (by rfl) T.min (by decide +kernel) (pa_cons (pe_lst (pa_cons pe_int (pa_cons (pe_op op_fdivW (pe_callTy call_int1 (by rfl) T.int (by decide +kernel) (pa_cons (pe_op op_sub (pv 2) (pv 3)) pa_nil)) (pe_op op_add (pv 4) (pv 5))) pa_nil))) pa_nil))) pa_nil))))
 (pss_join (ps_set (i := 7) scDp.nd rfl (.inl rfl) (pe_op op_mul (pe_un un_neg (pe_callTy call_int1 (by rfl) T.int (by decide +kernel) (pa_cons (pe_op op_fdivW (pe_un un_neg (pe_op op_add (pv 3) (pe_op op_mul (pv 4) (pv 6)))) (pv 5)) pa_nil))) (pv 5)))
 (pss_cons (ps_if (pt_cmpR op_gt (pv 7) (pv 2) (nomark _)) (pss_one (ps_ret pe_non)) pss_nil)
 (pss_join (ps_set (i := 8) scDp.nd rfl (.inl rfl) (pe_op op_add (pv 7) (pe_op op_mul (pe_op op_mul (pv 5) (pe_call OD hr rfl DW.g DW.u.kp DW.b .nil pass0 (pa_cons (pv 0) (pa_cons (pe_op op_add (pe_op op_fdivW (pe_callTy call_int1 (by rfl) T.int (by decide +kernel) (pa_cons (pe_op op_sub (pv 2) (pv 7)) pa_nil)) (pv 5)) pe_int) pa_nil)))) (pe_call OD hr rfl DW.g DW.u.kp DW.b .nil pass0 (pa_cons (pv 0) (pa_cons pe_int pa_nil))))))
 (pss_cons (ps_par (i := 9) (j := 10) (by rfl) scDp.nd rfl rfl (by decide) rfl rfl (pa_cons (pv 2) (pa_cons (pe_lst pa_nil) pa_nil)) (by rfl))
 (pss_cons (ps_for PassesOwn.never rfl (pi_range1 (by rfl) T.range (pa_cons (pv 6) pa_nil)) (pg_name (i := 11) scDp.nd rfl (.inl rfl)) (pss_join (ps_set (i := 9) scDp.nd rfl (.inl rfl) (pe_op op_sub (pv 9) (pe_op op_mul (pe_op op_mul (pv 5) (pe_call OD hr rfl DW.g DW.u.kp DW.b .nil pass0 (pa_cons (pv 0) (pa_cons pe_int pa_nil)))) (pe_call OD hr rfl DW.g DW.u.kp DW.b .nil pass0 (pa_cons (pv 0) (pa_cons pe_int pa_nil))))))
 (pss_join (ps_set (i := 12) scDp.nd rfl (.inl rfl) (pe_ix ix_list (pe_lst (pa_cons (pv 5) (pa_cons (pe_op op_mul pe_int (pv 5)) (pa_cons (pe_callTy call_int1 (by rfl) T.int (by decide +kernel) (pa_cons (pe_op op_sub (pv 9) (pv 8)) pa_nil)) pa_nil)))) (pe_call OD hr rfl DW.g DW.u.kp DW.b .nil pass0 (pa_cons (pv 0) (pa_cons pe_int pa_nil))) (fun _ _ => rfl)))
 (pss_join (ps_set (i := 13) scDp.nd rfl (.inl rfl) (pe_op op_mul (pv 5) (pe_call OD hr rfl DW.g DW.u.kp DW.b .nil pass0 (pa_cons (pv 0) (pa_cons (pe_op op_add pe_int (pe_callB (cr_max rfl) (by rfl) T.max (by decide +kernel) (pa_cons (pe_lst (pa_cons pe_int (pa_cons (pe_op op_fdivW (pe_callB (cr_min rfl) (by rfl) T.min (by decide +kernel) (pa_cons (pe_lst (pa_cons (pv 12) (pa_cons (pe_op op_sub (pv 9) (pv 8)) pa_nil))) pa_nil)) (pv 5)) pa_nil))) pa_nil))) pa_nil)))))
 (pss_join (ps_set (i := 14) scDp.nd rfl (.inl rfl) (pe_op op_sub (pv 13) (pe_call OD hr rfl DW.g DW.u.kp DW.b .nil pass0 (pa_cons (pv 0) (pa_cons (pv 5) pa_nil)))))
 (pss_one (ps_if (pt_cut (PW.pt (pw_and (pt_cmpR op_gt (pv 13) pe_int (nomark _)) (pw_and (pt_cmpR op_ge (pe_op op_sub (pv 9) (pv 13)) (pv 8) (nomark _)) (pw_and (pt_cmpR op_gt (pv 14) pe_int (nomark _)) (pw_and1 (pt_cmpR op_gt (pe_call OD hr rfl DW.g DW.u.kp DW.b .nil pass0 (pa_cons (pv 0) (pa_cons pe_int pa_nil))) pe_int (nomark _)))))))) (pss_cons (ps_set (i := 9) scDp.nd rfl (.inl rfl) (pe_op op_sub (pv 9) (pv 13)))
 (pss_one (ps_expr (pe_bm PySem.F.plainAttrs_list PySem.F.slot_list_append PySem.F.type_list_append mt_append (pv 10) (pa_cons (pe_tup (pa_cons (pv 9) (pa_cons (pv 14) pa_nil))) pa_nil))))) (pss_one (ps_expr (pe_bm PySem.F.plainAttrs_list PySem.F.slot_list_append PySem.F.type_list_append mt_append (pv 10) (pa_cons pe_non pa_nil)))))))))))
 (pss_cons (ps_for PassesOwn.never rfl (pi_range1 (by rfl) T.range (pa_cons (pv 6) pa_nil)) (pg_name (i := 11) scDp.nd rfl (.inl rfl)) (pss_cons (ps_set (i := 15) scDp.nd rfl (.inl rfl) (pe_call OD hr rfl DW.g DW.u.kp DW.b .nil pass0 (pa_cons (pv 0) (pa_cons (pv 6) pa_nil))))
 (pss_one (ps_asg (pe_tup (pa_cons (pe_ix ix_list (pv 10) (pv 15) (fun _ _ => rfl)) (pa_cons (pe_ix ix_list (pv 10) (pv 11) (fun _ _ => rfl)) pa_nil))) (pg_tup rfl (pgs_cons (pg_sub (pv 10) (pv 11) set_list) (pgs_cons (pg_sub (pv 10) (pv 15) set_list) pgs_nil)))))))
 (pss_one (ps_ret (pe_tup (pa_cons (pv 2) (pa_cons (pv 8) (pa_cons (pe_callTy call_tuple_of (by rfl) T.tuple (by decide +kernel) (pa_cons (pv 10) pa_nil)) pa_nil)))))))))))))), ?_⟩
    refine ⟨_, rfl, ta, _, 0, _, rfl, rfl, SqT.of hta, atI_nat (j := 0) rfl, _, rfl, ta, _, 1, _, rfl, rfl, SqT.of hta, atI_nat (j := 1) rfl, _, rfl, ta, _, 2, _, rfl, rfl, SqT.of hta, atI_nat (j := 2) rfl, _, _, _, rfl, ?_⟩
    refine ⟨_, rfl, _, rfl, _, rfl, _, _, rfl, rfl, .inl ⟨_, rfl, _, rfl, _, rfl, _, _, rfl, rfl, _, _, rfl, rfl, wide_div (b := 20) (by omega) (by omega) (by decide) (by decide), (by show 2 ≤ sizeLine; decide), fun q0 hq0 => ?_⟩⟩
    refine ⟨q0, [6, (sz - hd) / (sl + un)], rfl, SqL.of upd_same, (by show 0 < 2; decide), fun m hm hle => ?_⟩
    have m6 : m ≤ 6 := hle 6 (List.mem_cons_self ..)
    have m0 : 0 ≤ m := by
      have X0 : 0 ≤ (sz - hd) / (sl + un) := Int.ediv_nonneg (by omega) (by omega)
      rcases List.mem_cons.mp hm with e | e
      · omega
      · rw [List.mem_singleton.mp e]; exact X0
    refine ⟨_, _, rfl, rfl, b, l, n, _, rfl, B.same (same_new hq0), by omega, by omega, by omega, fun many H2 r0 r1 sb2 B2 => ?_⟩
    have bt2 : SameBut b H H2 := but_trans (same_but (same_new hq0)) sb2
    obtain ⟨mn, rfl⟩ : ∃ mn : Nat, many = mn := ⟨many.toNat, by omega⟩
    have mn6 : mn ≤ 6 := by omega
    have nm0 : 0 ≤ hd + sl * (mn : Int) := by
      have : 0 ≤ sl * (mn : Int) := Int.mul_nonneg (by omega) (by omega)
      omega
    have nm1 : hd + sl * (mn : Int) ≤ 1000 + 64 * 6 := by
      have : sl * (mn : Int) ≤ 64 * 6 := Int.mul_le_mul (by omega) (by omega) (by omega) (by omega)
      omega
    refine ⟨fun σ G => ∃ eg : Int, σ = [some (.ref b), some (.ref ta), some (.int sz), some (.int hd), some (.int sl), some (.int un), some (.int (mn : Int)), some (.int eg), none, none, none, none, none, none, none, none] ∧ SameBut b H G ∧ BagL G b l (n + 1) ∧ 0 ≤ eg, ?_, ?_⟩
    · refine ⟨_, rfl, _, rfl, _, rfl, _, _, rfl, rfl, .inl ⟨by omega, by omega⟩, _, _, rfl, rfl, _, rfl, _, rfl, _, _, rfl, rfl, wide_div (b := 20) (by omega) (by omega) (by decide) (by decide), .inl ⟨_, rfl, _, rfl, _, rfl, _, _, rfl, rfl, .inr ⟨by omega, by omega⟩, ?_⟩⟩
      refine ⟨_, rfl, bt2, B2, ?_⟩
      have := room_ge (n := hd + sl * (mn : Int)) u0
      unfold roomI at this
      omega
    rintro σ G ⟨eg, rfl, bt, BG, e0⟩
    refine ⟨_, rfl, _, rfl, _, _, rfl, rfl, _, rfl, ?_⟩
    by_cases c1 : sz < eg
    · exact iteY c1 (k _ _ bt (BG.more (by omega)) (.inl rfl))
    refine iteN c1 ?_
    refine ⟨fun σ G => ∃ low : Int, σ = [some (.ref b), some (.ref ta), some (.int sz), some (.int hd), some (.int sl), some (.int un), some (.int (mn : Int)), some (.int eg), some (.int low), none, none, none, none, none, none, none] ∧ SameBut b H G ∧ BagL G b l (n + 3) ∧ 0 ≤ low ∧ low ≤ 20000, ?_, ?_⟩
    · have d1 : 0 ≤ (sz - eg) / un := Int.ediv_nonneg (by omega) (by omega)
      have d2 : (sz - eg) / un ≤ 1000 := Int.ediv_le_of_le_mul (by omega) (by omega)
      refine ⟨_, rfl, _, rfl, _, rfl, _, rfl, _, rfl, _, _, rfl, rfl, .inl ⟨_, rfl, _, rfl, _, _, rfl, rfl, wide_div (b := 20) (by omega) (by omega) (by decide) (by decide), _, _, rfl, rfl, b, l, _, _, rfl, BG, by omega, (by show 1 ≤ (sz - eg) / un + 1; omega), (by show (sz - eg) / un + 1 ≤ _; omega), fun x G1 x0 x1 sb1 B1 => ?_⟩⟩
      have x2 : x ≤ 1000 := by have : x < (sz - eg) / un + 1 := x1; omega
      have y0 : 0 ≤ un * x := Int.mul_nonneg (by omega) x0
      have y1 : un * x ≤ 16 * 1000 := Int.mul_le_mul (by omega) x2 x0 (by omega)
      refine ⟨_, _, rfl, rfl, .inl ⟨by omega, by omega⟩, _, rfl, b, l, _, 2, rfl, B1, by omega, by decide, by decide, fun z G2 z0 z1 sb2 B2 => ?_⟩
      refine ⟨_, _, rfl, rfl, .inr ⟨by omega, by omega⟩, _, _, rfl, rfl, _, rfl, but_trans bt (but_trans sb1 sb2), B2, ?_, ?_⟩
      · rcases (by omega : z = 0 ∨ z = 1) with e | e <;> subst e <;> omega
      · rcases (by omega : z = 0 ∨ z = 1) with e | e <;> subst e <;> omega
    rintro σ G ⟨low, rfl, bt, BG, lo0, lo1⟩
    refine ⟨_, rfl, Nat.zero_le _, fun ra hra => ⟨_, _, rfl, ?_⟩⟩
    have I0 : DpI H (upd G ra (.lst [])) b l ra (n + 3) [] := by
      refine ⟨fun a o na e => same_new hra _ _ (bt a o na e), BG.same (same_new hra), ⟨[], upd_same, .nil⟩, ?_, fun y => BG.there.1 (y ▸ hra), fun y => BG.there.2 (y ▸ hra)⟩
      cases e : H ra with
      | none => rfl
      | some o => rw [bt ra o (fun y => BG.there.1 (y ▸ hra)) e] at hra; cases hra
    generalize upd G ra (.lst []) = G0 at *
    refine ⟨_, rfl, (mn : Int), rfl, by omega, by omega, for_range (n := mn) (fun i σ G => ∃ (at_ : Int) (rs : List (Option Rec)) (v11 v12 v13 v14 : Option V), σ = [some (.ref b), some (.ref ta), some (.int sz), some (.int hd), some (.int sl), some (.int un), some (.int (mn : Int)), some (.int eg), some (.int low), some (.int at_), some (.ref ra), v11, v12, v13, v14, none] ∧ DpI H G b l ra (n + 3 + 6 * i) rs ∧ rs.length = i ∧ BndR 1000000 rs ∧ at_ ≤ 1000 ∧ -(100000 * (i : Int)) - 1 ≤ at_)
      ⟨sz, [], _, _, _, _, rfl, I0, rfl, (fun p h => absurd h List.not_mem_nil), by omega, by omega⟩ ?_ ?_⟩
    · rintro i σ G1 hi ⟨at_, rs, v11, v12, v13, v14, rfl, I, lr, bn, a1, a2⟩
      -- where it lies
      refine ⟨fun σ G => ∃ at_ : Int, σ = [some (.ref b), some (.ref ta), some (.int sz), some (.int hd), some (.int sl), some (.int un), some (.int (mn : Int)), some (.int eg), some (.int low), some (.int at_), some (.ref ra), some (.int (0 + (i : Int))), v12, v13, v14, none] ∧ DpI H G b l ra (n + 3 + 6 * i + 2) rs ∧ at_ ≤ 1000 ∧ -(100000 * (i : Int)) - 50 ≤ at_, ?_, ?_⟩
      · refine ⟨_, rfl, _, rfl, _, rfl, b, l, _, 3, rfl, I.bag, by omega, by decide, by decide, fun x G2 x0 x1 sb2 B2 => ?_⟩
        have y0 : 0 ≤ un * x := Int.mul_nonneg (by omega) x0
        have y1 : un * x ≤ 16 * 2 := Int.mul_le_mul (by omega) (by omega) x0 (by omega)
        refine ⟨_, _, rfl, rfl, .inr ⟨by omega, by omega⟩, _, rfl, b, l, _, 2, rfl, B2, by omega, by decide, by decide, fun z G3 z0 z1 sb3 B3 => ?_⟩
        refine ⟨_, _, rfl, rfl, .inr ⟨by omega, by omega⟩, _, _, rfl, rfl, _, rfl, (I.draw sb2 B2).draw sb3 B3, ?_, ?_⟩
        · rcases (by omega : z = 0 ∨ z = 1) with e | e <;> subst e <;> omega
        · rcases (by omega : z = 0 ∨ z = 1) with e | e <;> subst e <;> omega
      rintro σ G2 ⟨aw, rfl, I2, b1, b2⟩
      -- what may be spared
      refine ⟨fun σ G => ∃ sp : Int, σ = [some (.ref b), some (.ref ta), some (.int sz), some (.int hd), some (.int sl), some (.int un), some (.int (mn : Int)), some (.int eg), some (.int low), some (.int aw), some (.ref ra), some (.int (0 + (i : Int))), some (.int sp), v13, v14, none] ∧ DpI H G b l ra (n + 3 + 6 * i + 3) rs ∧ -1000000 ≤ sp ∧ sp ≤ 1000000, ?_, ?_⟩
      · refine ⟨_, rfl, _, rfl, _, _, rfl, rfl, .inl ⟨by omega, by omega⟩, _, rfl, _, rfl, _, _, rfl, rfl, .inl ⟨_, rfl, (by show 3 ≤ sizeLine; decide), fun q hq => ?_⟩⟩
        refine ⟨_, rfl, b, l, _, 3, rfl, I2.bag.same (same_new hq), by omega, by decide, by decide, fun x G3 x0 x1 sb3 B3 => ?_⟩
        have I3 := (I2.same (same_new (o := .lst [.int un, .int (3 * un), .int (aw - low)]) hq)).draw sb3 B3
        have nq : q ≠ b := fun y => I2.bag.there.1 (y ▸ hq)
        have hq3 : G3 q = some (.lst (([un, 3 * un, aw - low] : List Int).map V.int)) := sb3 _ _ nq upd_same
        obtain ⟨sp, hsp, esp⟩ := pick_map V.int [un, 3 * un, aw - low] x0 x1
        have bsp : -1000000 ≤ sp ∧ sp ≤ 1000000 := by
          rcases List.mem_cons.mp hsp with e | hsp
          · omega
          rcases List.mem_cons.mp hsp with e | hsp
          · omega
          rw [List.mem_singleton.mp hsp]
          omega
        exact ⟨q, _, _, _, rfl, rfl, SqL.of hq3, esp, sp, rfl, I3, bsp⟩
      rintro σ G3 ⟨sp, rfl, I3, p1, p2⟩
      -- its room
      refine ⟨fun σ G => ∃ ro : Int, σ = [some (.ref b), some (.ref ta), some (.int sz), some (.int hd), some (.int sl), some (.int un), some (.int (mn : Int)), some (.int eg), some (.int low), some (.int aw), some (.ref ra), some (.int (0 + (i : Int))), some (.int sp), some (.int ro), v14, none] ∧ DpI H G b l ra (n + 3 + 6 * i + 4) rs ∧ 0 ≤ ro ∧ ro ≤ 20000, ?_, ?_⟩
      · refine ⟨_, rfl, _, rfl, _, rfl, _, rfl, _, rfl, _, _, rfl, rfl, (by show 2 ≤ sizeLine; decide), fun q1 hq1 => ?_⟩
        refine ⟨q1, [sp, aw - low], rfl, SqL.of upd_same, (by show 0 < 2; decide), fun m hm hle => ?_⟩
        have m1 : m ≤ 1000 := by have := hle (aw - low) (by simp); omega
        have m2 : -2000000 ≤ m := by
          rcases List.mem_cons.mp hm with e | hm
          · omega
          · rw [List.mem_singleton.mp hm]; omega
        have d1 : m / un ≤ 1000 := Int.ediv_le_of_le_mul (by omega) (by omega)
        refine ⟨_, rfl, _, _, rfl, rfl, wide_div (b := 20) (by omega) (by omega) (by decide) (by decide), (by show 2 ≤ sizeLine; decide), fun q2 hq2 => ?_⟩
        refine ⟨q2, [0, m / un], rfl, SqL.of upd_same, (by show 0 < 2; decide), fun x hx xle => ?_⟩
        have x0 : 0 ≤ x := xle 0 (List.mem_cons_self ..)
        have x1 : x ≤ 1000 := by
          rcases List.mem_cons.mp hx with e | hx
          · omega
          · rw [List.mem_singleton.mp hx]; exact d1
        have I4 := (I3.same (same_new (o := .lst [.int sp, .int (aw - low)]) hq1)).same (same_new (o := .lst [.int 0, .int (m / un)]) hq2)
        refine ⟨_, _, rfl, rfl, b, l, _, _, rfl, I4.bag, by omega, (by show 1 ≤ 1 + x; omega), (by show 1 + x ≤ _; omega), fun d G4 d0 d1 sb4 B4 => ?_⟩
        have d2 : d ≤ 1000 := by have : d < 1 + x := d1; omega
        have y0 : 0 ≤ un * d := Int.mul_nonneg (by omega) d0
        have y1 : un * d ≤ 16 * 1000 := Int.mul_le_mul (by omega) d2 d0 (by omega)
        exact ⟨_, _, rfl, rfl, .inr ⟨by omega, by omega⟩, _, rfl, I4.draw sb4 B4, y0, by omega⟩
      rintro σ G4 ⟨ro, rfl, I4, o1, o2⟩
      -- its length
      refine ⟨fun σ G => ∃ le : Int, σ = [some (.ref b), some (.ref ta), some (.int sz), some (.int hd), some (.int sl), some (.int un), some (.int (mn : Int)), some (.int eg), some (.int low), some (.int aw), some (.ref ra), some (.int (0 + (i : Int))), some (.int sp), some (.int ro), some (.int le), none] ∧ DpI H G b l ra (n + 3 + 6 * i + 5) rs ∧ -100 ≤ le ∧ le ≤ 20000, ?_, ?_⟩
      · refine ⟨_, rfl, _, rfl, _, rfl, b, l, _, un, rfl, I4.bag, by omega, u0, by omega, fun d G5 d0 d1 sb5 B5 => ?_⟩
        exact ⟨_, _, rfl, rfl, _, rfl, I4.draw sb5 B5, by omega, by omega⟩
      rintro σ G5 ⟨le, rfl, I5, q1, q2⟩
      refine ⟨fun c G => DpI H G b l ra (n + 3 + 6 * i + 6) rs ∧ (c = true → 0 < le), ?_, ?_⟩
      · refine ⟨_, rfl, _, _, rfl, rfl, _, rfl, ?_⟩
        refine ite2 (fun _ => ?_) (fun z => ⟨I5.more (by omega), (fun y => nomatch y)⟩)
        refine ⟨_, rfl, _, rfl, _, _, rfl, rfl, _, rfl, _, _, rfl, rfl, _, rfl, ?_⟩
        refine ite2 (fun _ => ?_) (fun z => ⟨I5.more (by omega), (fun y => nomatch y)⟩)
        refine ⟨_, rfl, _, _, rfl, rfl, _, rfl, ?_⟩
        refine ite2 (fun c => ?_) (fun z => ⟨I5.more (by omega), (fun y => nomatch y)⟩)
        have c := of_decide_eq_true c
        refine ⟨_, rfl, b, l, _, 4, rfl, I5.bag, by omega, by decide, by decide, fun d G6 d0 d1 sb6 B6 => ?_⟩
        exact ⟨_, _, rfl, rfl, _, rfl, I5.draw sb6 B6, fun _ => c⟩
      rintro c G6 ⟨I6, _⟩
      obtain ⟨xs, hx, rv⟩ := I6.row
      have lx := rv.len
      have fits : xs.length < sizeLine := by rw [sizeLine_eq]; omega
      cases c with
      | true =>
        refine iteT ⟨_, rfl, _, rfl, _, _, rfl, rfl, ?_⟩
        refine ⟨_, rfl, .inl ⟨rfl, _, SqL.of hx⟩, _, rfl, _, rfl, (by show 2 ≤ sizeLine; decide), fun t ht => ?_⟩
        have s7 : Same G6 (upd G6 t (.tup [.int (aw - ro), .int le])) := same_new ht
        have I7 := I6.same s7
        have hx7 := s7 _ _ hx
        have ht7 : upd G6 t (.tup [.int (aw - ro), .int le]) t = some (.tup [.int (aw - ro), .int le]) := upd_same
        refine ⟨ra, _, _, rfl, rfl, hx7, fits, aw - ro, rs ++ [some (aw - ro, le)], _, _, _, _, rfl, ?_, ?_, ?_, by omega, by omega⟩
        · exact (I7.set ((rv.keep (KeepU.of s7)).app (.cons (.rc ht7) .nil))).more (by omega)
        · rw [List.length_append, lr]; rfl
        · intro p hp
          rcases List.mem_append.mp hp with h | h
          · exact bn p h
          · cases List.mem_singleton.mp h
            dsimp only
            omega
      | false =>
        refine iteF ⟨_, rfl, .inl ⟨rfl, _, SqL.of hx⟩, ra, _, _, rfl, rfl, hx, fits, aw, rs ++ [none], _, _, _, _, rfl, ?_, ?_, ?_, by omega, by omega⟩
        · exact (I6.set (rv.app (.cons .non .nil))).more (by omega)
        · rw [List.length_append, lr]; rfl
        · intro p hp
          rcases List.mem_append.mp hp with h | h
          · exact bn p h
          · cases List.mem_singleton.mp h
    · rintro σ G1 ⟨at_, rs, v11, v12, v13, v14, rfl, I, lr, bn, a1, a2⟩
      refine ⟨_, rfl, (mn : Int), rfl, by omega, by omega, for_range (n := mn) (fun i σ G => ∃ (rs : List (Option Rec)) (v11 v15 : Option V), σ = [some (.ref b), some (.ref ta), some (.int sz), some (.int hd), some (.int sl), some (.int un), some (.int (mn : Int)), some (.int eg), some (.int low), some (.int at_), some (.ref ra), v11, v12, v13, v14, v15] ∧ DpI H G b l ra (n + 3 + 6 * mn + i) rs ∧ rs.length = mn ∧ BndR 1000000 rs)
        ⟨rs, _, _, rfl, I, lr, bn⟩ ?_ ?_⟩
      · rintro i σ G2 hi ⟨rs, v11, v15, rfl, I2, lr, bn⟩
        rw [show ((0 : Int) + (i : Int)) = (i : Int) from by omega]
        refine ⟨_, rfl, _, rfl, b, l, _, (mn : Int), rfl, I2.bag, by omega, by omega, by omega, fun j G3 j0 j1 sb3 B3 => ?_⟩
        have I3 := I2.draw sb3 B3
        obtain ⟨xs, hx, rv⟩ := I3.row
        have lx := rv.len
        obtain ⟨j, rfl⟩ : ∃ j' : Nat, j = j' := ⟨j.toNat, by omega⟩
        have hj : j < xs.length := by omega
        have hi' : i < xs.length := by omega
        have ej := List.getElem?_eq_getElem hj
        have ei := List.getElem?_eq_getElem hi'
        refine ⟨_, rfl, _, rfl, ra, xs, _, _, rfl, rfl, SqL.of hx, atI_nat ej, _, rfl, _, rfl, ra, xs, _, _, rfl, rfl, SqL.of hx, atI_nat ei, (by show 2 ≤ sizeLine; decide), fun t ht => ?_⟩
        obtain ⟨rj, hrj, vj⟩ := rv.get ej
        obtain ⟨ri, hri, vi⟩ := rv.get ei
        have s4 : Same G3 (upd G3 t (.tup [xs[j], xs[i]])) := same_new ht
        have I4 := I3.same s4
        have hx4 := s4 _ _ hx
        have ht4 : upd G3 t (.tup [xs[j], xs[i]]) t = some (.tup [xs[j], xs[i]]) := upd_same
        generalize upd G3 t (.tup [xs[j], xs[i]]) = G4 at *
        have rv4 := rv.keep (KeepU.of s4)
        refine ⟨t, _, rfl, SqT.of ht4, rfl, _, _, rfl, _, rfl, _, rfl, ra, xs, (i : Int), i, rfl, rfl, hx4, ixN_nat hi', ?_⟩
        have I5 := I4.set (ys := xs.set i xs[j]) (qs := rs.set i rj) (rv4.set (vj.keep (KeepU.of s4)))
        have hx5 : upd G4 ra (.lst (xs.set i xs[j])) ra = some (.lst (xs.set i xs[j])) := upd_same
        have ku : KeepU G4 (upd G4 ra (.lst (xs.set i xs[j]))) := KeepU.lst hx4
        generalize upd G4 ra (.lst (xs.set i xs[j])) = G5 at *
        refine ⟨_, _, rfl, _, rfl, _, rfl, ra, _, (j : Int), j, rfl, rfl, hx5, ixN_nat (by rw [List.length_set]; exact hj), rfl, (rs.set i rj).set j ri, _, _, rfl, ?_, ?_, ?_⟩
        · refine (I5.set (RecsV.set ?_ ((vi.keep (KeepU.of s4)).keep ku))).more (by omega)
          exact (rv4.set (vj.keep (KeepU.of s4))).keep ku
        · rw [List.length_set, List.length_set]; exact lr
        · intro p hp
          rcases mem_set hp with h | h
          · rcases mem_set h with h | h
            · exact bn p h
            · rw [← h] at hrj; exact bn p (List.mem_of_getElem? hrj)
          · rw [← h] at hri; exact bn p (List.mem_of_getElem? hri)
      · rintro σ G2 ⟨rs, v11, v15, rfl, I2, lr, bn⟩
        obtain ⟨xs, hx, rv⟩ := I2.row
        refine ⟨_, rfl, _, rfl, _, rfl, ra, xs, rfl, .inl ⟨SqL.of hx, fun t ht => ⟨(by show 3 ≤ sizeLine; decide), fun p hp => ?_⟩⟩⟩
        have s3 : Same G2 (upd G2 t (.tup xs)) := same_new ht
        have s4 : Same (upd G2 t (.tup xs)) (upd (upd G2 t (.tup xs)) p (.tup [.int sz, .int low, .ref t])) := same_new hp
        have I4 := (I2.same s3).same s4
        refine k _ _ I4.but (I4.bag.more (by omega)) (.inr ⟨low, rs, ⟨p, t, rfl, upd_same, xs, s4 _ _ upd_same, rv.keep (KeepU.of (s3.trans s4))⟩, by omega, by omega, bn⟩)
end
end IdL
namespace IdL
open PySem L2 TL
/-! ### pages spoiled -/
def NSp5 : List Str := ["_law_bag_here", "_law_page", "_law_size", "_law_low", "_law_row", "_law_more", "_law_way", "_law_at", "_law_old", "_law_late"]
theorem scSp5 : FnScope NSp5 ["_law_bag_here", "_law_page"] (defScope sSp5) := ⟨rfl, rfl, rfl, by decide +kernel, rfl, by decide +kernel, by decide +kernel⟩
structure FSp5 (K : PySem.W.Frag) (mg : Str → Option Value) (f : Addr) (d : FuncData) : Prop where
  u : Fun K "_law_spoiled" "_law_spoiled" sSp5 f d
  b : Binds K d ["_law_bag_here", "_law_page"] []
  g : mg "_law_spoiled" = some (.ref f)
theorem catA_ok {K : PySem.W.Frag} {H : Hp} {a b : Addr} {xs ys : List V} {Q : VK} (ha : H a = some (.tup xs)) (hb : H b = some (.tup ys)) (hl : xs.length + ys.length ≤ sizeLine) (k : ∀ p H', Same H H' → H' p = some (.tup (xs ++ ys)) → Q (.ref p) H') : rCatA K (.ref a) (.ref b) H Q :=
  ⟨a, b, xs, ys, rfl, rfl, SqT.of ha, SqT.of hb, hl, fun e => k b H (Same.refl H) (by rw [e]; exact hb), fun _ e => k a H (Same.refl H) (by rw [e, List.append_nil]; exact ha), fun _ _ p hp => k p _ (same_new hp) upd_same⟩
theorem rows_lay : ∀ rs : List (Option Rec), PyData.canLayAll0 (rs.map recDt) = true ∧ PyData.depthAll (rs.map recDt) ≤ 1
  | [] => ⟨rfl, by simp [PyData.depthAll]⟩
  | r :: rs => by
    obtain ⟨h1, h2⟩ := rows_lay rs
    have h3 : PyData.canLay0 (recDt r) = true ∧ PyData.depth (recDt r) ≤ 1 := by
      cases r with
      | none => exact ⟨rfl, by simp [recDt, PyData.depth]⟩
      | some p => exact ⟨rfl, by simp [recDt, PyData.depth, PyData.depthAll]⟩
    refine ⟨?_, ?_⟩
    · show (PyData.canLay0 (recDt r) && PyData.canLayAll0 (rs.map recDt)) = true
      rw [h3.1, h1]; rfl
    · simp only [List.map_cons, PyData.depthAll]; omega
theorem row_shaped (rs : List (Option Rec)) : SeqAt.shaped (.tuple (rs.map recDt)) = true := by
  obtain ⟨h1, h2⟩ := rows_lay rs
  unfold SeqAt.shaped
  rw [Bool.and_eq_true]
  refine ⟨h1, decide_eq_true ?_⟩
  show PyData.depthAll (rs.map recDt) + 1 ≤ 64
  omega
theorem row_nil (rs : List (Option Rec)) : PyData.eqv (.tuple (rs.map recDt)) (.tuple []) = rs.isEmpty := by
  cases rs with
  | nil => rfl
  | cons r rs => cases r <;> rfl
/-- a page that the law has: numbers that are not too great -/
structure PgB (H : Hp) (v : V) (s low : Int) (rs : List (Option Rec)) : Prop where
  at_ : PgAt H v s low rs
  s : s.natAbs ≤ 2000000
  low : low.natAbs ≤ 2000000
  len : rs.length ≤ 6
  bn : BndR 2000000 rs
theorem BndR.mono {M N : Nat} {rs : List (Option Rec)} (h : BndR M rs) (k : M ≤ N) : BndR N rs := fun p hp => by have := h p hp; omega
theorem RecsV.take {H : Hp} : ∀ {vs : List V} {rs : List (Option Rec)}, RecsV H vs rs → ∀ n, RecsV H (vs.take n) (rs.take n)
  | _, _, .nil, n => by rw [List.take_nil, List.take_nil]; exact .nil
  | _, _, .cons h t, 0 => .nil
  | _, _, .cons h t, n + 1 => .cons h (t.take n)
theorem RecsV.drop {H : Hp} : ∀ {vs : List V} {rs : List (Option Rec)}, RecsV H vs rs → ∀ n, RecsV H (vs.drop n) (rs.drop n)
  | _, _, .nil, n => by rw [List.drop_nil, List.drop_nil]; exact .nil
  | _, _, .cons h t, 0 => .cons h t
  | _, _, .cons h t, n + 1 => t.drop n
def spSp5 : Sp := fun vs H Q _ => ∃ (b l : Addr) (n : Nat) (pg : V) (s low : Int) (rs : List (Option Rec)), vs = [.ref b, pg] ∧ BagL H b l n ∧ n ≤ 100000 ∧ PgAt H pg s low rs ∧ s.natAbs ≤ 1000000 ∧ low.natAbs ≤ 1000000 ∧ rs.length ≤ 6 ∧ BndR 1000000 rs ∧
  ∀ v H' s' low' rs', SameBut b H H' → BagL H' b l (n + 3) → PgB H' v s' low' rs' → Q v H'
section
variable {P : Program} {w : World} {K : PySem.W.Frag} {mg : Str → Option Value} {base : Heap}
theorem ok_sp5 {f fD : Addr} {fd dD : FuncData} (F : Fun K "_law_spoiled" "_law_spoiled" sSp5 f fd) (DW : FDw K mg fD dD) (OD : FnOk P w K mg base CX0 1 fD dD ["_law_bag_here", "_law_limit"] spDrawL) (T : Gv mg) : FnOk P w K mg base CX0 2 f fd ["_law_bag_here", "_law_page"] spSp5 := by
  refine F.ok scSp5 (fun vs H Q E h => ?_) (fun cdv A outer s H vs Q E hr h => ?_)
  · obtain ⟨b, l, n, pg, sz, low, rs, rfl, _⟩ := h
    rfl
  · obtain ⟨b, l, n, pg, sz, low, rs, rfl, B, hn, PA, bs, bl, ln, bn, k⟩ := h
    refine ⟨_, (pss_cons (ps_asg (pv 1) (pg_tup rfl (pgs_cons (pg_name (i := 2) scSp5.nd rfl (.inl rfl)) (pgs_cons (pg_name (i := 3) scSp5.nd rfl (.inl rfl)) (pgs_cons (pg_name (i := 4) scSp5.nd rfl (.inl rfl)) pgs_nil)))))
 (pss_cons (ps_par (i := 5) (j := 6) (by rfl) scSp5.nd rfl rfl (by decide) rfl rfl (pa_cons (pe_op op_sub (pe_call OD hr rfl DW.g DW.u.kp DW.b .nil pass0 (pa_cons (pv 0) (pa_cons pe_int pa_nil))) pe_int) (pa_cons (pe_call OD hr rfl DW.g DW.u.kp DW.b .nil pass0 (pa_cons (pv 0) (pa_cons pe_int pa_nil))) pa_nil)) (by rfl))
 (pss_cons (ps_if (pt_cmpR op_eq (pv 6) pe_int (nomark _)) (pss_one (ps_ret (pe_tup (pa_cons (pe_op op_add (pv 2) (pv 5)) (pa_cons (pv 3) (pa_cons (pv 4) pa_nil)))))) pss_nil)
 (pss_cons (ps_if (PW.pt (pw_or (pt_cmpR op_eq (pv 6) pe_int (nomark _)) (pw_or1 (pt_cmpR (op_eqD hr.units) (pv 4) (pe_tup pa_nil) (nomark _))))) (pss_one (ps_ret (pe_tup (pa_cons (pv 2) (pa_cons (pe_op op_add (pv 3) (pv 5)) (pa_cons (pv 4) pa_nil)))))) pss_nil)
 (pss_cons (ps_set (i := 7) scSp5.nd rfl (.inl rfl) (pe_call OD hr rfl DW.g DW.u.kp DW.b .nil pass0 (pa_cons (pv 0) (pa_cons (pe_callB call_len_seq (by rfl) T.len PySem.boot_len (pa_cons (pv 4) pa_nil)) pa_nil))))
 (pss_cons (ps_set (i := 8) scSp5.nd rfl (.inl rfl) (pe_cut (pe_ifExp (pt_cmpR op_notN (pe_ix ix_tup (pv 4) (pv 7) (fun _ _ => rfl)) pe_non (nomark _)) (pe_ix ix_tup (pv 4) (pv 7) (fun _ _ => rfl)) (pe_tup (pa_cons (pv 3) (pa_cons pe_int pa_nil))))))
 (pss_join (ps_set (i := 9) scSp5.nd rfl (.inl rfl) (pe_ix ix_list (pe_lst (pa_cons (pe_tup (pa_cons (pe_op op_add (pe_ix ix_tup (pv 8) pe_int (fun _ _ => rfl)) (pv 5)) (pa_cons (pe_ix ix_tup (pv 8) pe_int (fun _ _ => rfl)) pa_nil))) (pa_cons (pe_tup (pa_cons (pe_ix ix_tup (pv 8) pe_int (fun _ _ => rfl)) (pa_cons (pe_op op_add (pe_ix ix_tup (pv 8) pe_int (fun _ _ => rfl)) (pv 5)) pa_nil))) pa_nil))) (pe_op op_sub (pv 6) pe_int) (fun _ _ => rfl)))
 (pss_one (ps_ret (pe_tup (pa_cons (pv 2) (pa_cons (pv 3) (pa_cons (pe_op op_catA (pe_op op_catA (pe_slice sl_tup (pv 4) po_none (po_some (pv 7))) (pe_tup (pa_cons (pv 9) pa_nil))) (pe_slice sl_tup (pv 4) (po_some (pe_op op_add (pv 7) pe_int)) po_none)) pa_nil))))))))))))), ?_⟩
    obtain ⟨p, ta, rfl, hp, xs, hx, rv⟩ := PA
    have bn2 := bn.mono (show 1000000 ≤ 2000000 by decide)
    refine ⟨_, rfl, p, _, rfl, SqT.of hp, rfl, _, _, rfl, _, _, rfl, _, _, rfl, rfl, ?_⟩
    refine ⟨_, rfl, b, l, n, 9, rfl, B, by omega, by decide, by decide, fun mo H1 m0 m1 sb1 B1 => ?_⟩
    refine ⟨_, _, rfl, rfl, _, rfl, b, l, _, 4, rfl, B1, by omega, by decide, by decide, fun way H2 w0 w1 sb2 B2 => ?_⟩
    have sb := but_trans sb1 sb2
    have ku : KeepU H H2 := B.ku sb
    have hx2 := ku _ _ hx
    have rv2 := rv.keep ku
    refine ⟨_, _, rfl, _, rfl, rfl, _, rfl, ?_⟩
    have fin : ∀ (x y : Int) (G : Hp) (t : Addr), Same H2 G → G t = none → x.natAbs ≤ 2000000 → y.natAbs ≤ 2000000 → Q (.ref t) (upd G t (.tup [.int x, .int y, .ref ta])) := fun x y G t sG ht hx hy => by
      have s3 : Same G (upd G t (.tup [.int x, .int y, .ref ta])) := same_new ht
      have s4 := sG.trans s3
      exact k _ _ x y rs (but_trans sb (same_but s4)) ((B2.same s4).more (by omega)) ⟨⟨t, ta, rfl, upd_same, xs, s4 _ _ hx2, rv2.keep (KeepU.of s4)⟩, hx, hy, ln, bn2⟩
    by_cases c0 : way = 0
    · refine iteY (congrArg V.int c0) ⟨_, rfl, _, rfl, _, _, rfl, rfl, _, rfl, _, rfl, (by show 3 ≤ sizeLine; decide), fun t ht => ?_⟩
      exact fin _ _ H2 t (Same.refl H2) ht (by omega) (by omega)
    refine iteN (fun z => c0 (V.int.inj z)) ⟨_, rfl, rfl, _, rfl, ?_⟩
    by_cases c1 : way = 1
    · refine iteY (congrArg V.int c1) (iteT ⟨_, rfl, _, rfl, _, rfl, _, _, rfl, rfl, _, rfl, (by show 3 ≤ sizeLine; decide), fun t ht => ?_⟩)
      exact fin _ _ H2 t (Same.refl H2) ht (by omega) (by omega)
    refine iteN (fun z => c1 (V.int.inj z)) ⟨_, rfl, Nat.zero_le _, fun e he => ?_⟩
    have s3 : Same H2 (upd H2 e (.tup [])) := same_new he
    refine ⟨.tuple (rs.map recDt), .tuple [], .tup (SqT.of (s3 _ _ hx2)) (TDs.dp (rv2.keep (KeepU.of s3)).td), .tup (SqT.of upd_same) .nil, row_shaped rs, rfl, _, rfl, ?_⟩
    rw [row_nil]
    cases hr0 : rs.isEmpty with
    | true =>
      refine iteT ⟨_, rfl, _, rfl, _, rfl, _, _, rfl, rfl, _, rfl, (by show 3 ≤ sizeLine; decide), fun t ht => ?_⟩
      exact fin _ _ _ t s3 ht (by omega) (by omega)
    | false =>
      refine iteF ?_
      have lr : 1 ≤ rs.length := by
        cases rs with
        | nil => cases hr0
        | cons _ _ => simp only [List.length_cons]; omega
      have B3 := B2.same s3
      have rv3 := rv2.keep (KeepU.of s3)
      have hx3 := s3 _ _ hx2
      have sb3 := but_trans sb (same_but s3)
      clear fin
      generalize upd H2 e (.tup []) = H3 at *
      refine ⟨_, rfl, _, rfl, ta, xs, rfl, .inr (SqT.of hx3), ?_⟩
      rw [rv.len]
      refine ⟨b, l, _, _, rfl, B3, by omega, by omega, by omega, fun at_ H4 a0 a1 sb4 B4 => ?_⟩
      obtain ⟨i, rfl⟩ : ∃ i : Nat, at_ = i := ⟨at_.toNat, by omega⟩
      have hi : i < xs.length := by rw [rv.len]; omega
      have ei := List.getElem?_eq_getElem hi
      have ku4 := B3.ku sb4
      have hx4 := ku4 _ _ hx3
      have rv4 := rv3.keep ku4
      obtain ⟨q, hq, vq⟩ := rv4.get ei
      have sbA := but_trans sb3 sb4
      -- the old one, or one at the low end
      refine ⟨fun v G => ∃ (t : Addr) (a le : Int), v = .ref t ∧ Same H4 G ∧ G t = some (.tup [.int a, .int le]) ∧ a.natAbs ≤ 1000000 ∧ le.natAbs ≤ 1000000, ?_, ?_⟩
      · refine ⟨_, rfl, _, rfl, ta, xs, _, _, rfl, rfl, SqT.of hx4, atI_nat ei, rfl, _, rfl, ?_⟩
        generalize xs[i] = y at *
        cases vq with
        | non => exact iteNS rfl ⟨_, rfl, (by show 2 ≤ sizeLine; decide), fun t ht => ⟨t, low, 1, rfl, same_new ht, upd_same, bl, by decide⟩⟩
        | @rc t a le ht =>
          have := bn (a, le) (List.mem_of_getElem? hq)
          exact iteNN (fun z => nomatch z) ⟨_, rfl, _, rfl, ta, xs, _, _, rfl, rfl, SqT.of hx4, atI_nat ei, t, a, le, rfl, Same.refl _, ht, this⟩
      rintro v G ⟨t, a, le, rfl, sG, htt, na, nl⟩
      -- the late one
      refine ⟨fun σ G' => ∃ (u : Addr) (a le : Int), σ = [some (.ref b), some (.ref p), some (.int sz), some (.int low), some (.ref ta), some (.int (mo - 4)), some (.int way), some (.int (i : Int)), some (.ref t), some (.ref u)] ∧ Same H4 G' ∧ G' u = some (.tup [.int a, .int le]) ∧ a.natAbs ≤ 2000000 ∧ le.natAbs ≤ 2000000, ?_, ?_⟩
      · refine ⟨_, rfl, t, _, 0, _, rfl, rfl, SqT.of htt, atI_nat (j := 0) rfl, _, rfl, _, _, rfl, rfl, _, rfl, t, _, 1, _, rfl, rfl, SqT.of htt, atI_nat (j := 1) rfl, (by show 2 ≤ sizeLine; decide), fun t1 ht1 => ?_⟩
        have s5 : Same G (upd G t1 (.tup [.int (a + (mo - 4)), .int le])) := same_new ht1
        have e5 : upd G t1 (.tup [.int (a + (mo - 4)), .int le]) t1 = some (.tup [.int (a + (mo - 4)), .int le]) := upd_same
        refine ⟨_, rfl, t, _, 0, _, rfl, rfl, SqT.of (s5 _ _ htt), atI_nat (j := 0) rfl, _, rfl, t, _, 1, _, rfl, rfl, SqT.of (s5 _ _ htt), atI_nat (j := 1) rfl, _, rfl, _, _, rfl, rfl, (by show 2 ≤ sizeLine; decide), fun t2 ht2 => ?_⟩
        have s6 : Same (upd G t1 (.tup [.int (a + (mo - 4)), .int le])) (upd (upd G t1 (.tup [.int (a + (mo - 4)), .int le])) t2 (.tup [.int a, .int (le + (mo - 4))])) := same_new ht2
        have e6 : upd (upd G t1 (.tup [.int (a + (mo - 4)), .int le])) t2 (.tup [.int a, .int (le + (mo - 4))]) t2 = some (.tup [.int a, .int (le + (mo - 4))]) := upd_same
        refine ⟨(by show 2 ≤ sizeLine; decide), fun t3 ht3 => ?_⟩
        have s7 := s6.trans (same_new (o := .lst [.ref t1, .ref t2]) ht3)
        have s8 : Same (upd (upd G t1 (.tup [.int (a + (mo - 4)), .int le])) t2 (.tup [.int a, .int (le + (mo - 4))])) (upd (upd (upd G t1 (.tup [.int (a + (mo - 4)), .int le])) t2 (.tup [.int a, .int (le + (mo - 4))])) t3 (.lst [.ref t1, .ref t2])) := same_new ht3
        rcases (by omega : way = 2 ∨ way = 3) with e | e
        · subst e
          exact ⟨_, rfl, _, _, rfl, rfl, t3, _, 0, .ref t1, rfl, rfl, SqL.of upd_same, atI_nat (j := 0) rfl, t1, _, _, rfl, sG.trans (s5.trans s7), s7 _ _ e5, by omega, by omega⟩
        · subst e
          exact ⟨_, rfl, _, _, rfl, rfl, t3, _, 1, .ref t2, rfl, rfl, SqL.of upd_same, atI_nat (j := 1) rfl, t2, _, _, rfl, sG.trans (s5.trans s7), s8 _ _ e6, by omega, by omega⟩
      rintro σ G' ⟨u, a', le', rfl, sG', hu', na', nl'⟩
      have hx5 := sG' _ _ hx4
      have nl6 : xs.length ≤ 6 := by rw [rv.len]; exact ln
      have ne1 : ¬ (HT.sIx xs.length 0 none = 0 ∧ HT.sIx xs.length xs.length (some ((i : Nat) : Int)) = xs.length) := fun z => by
        rw [HT.sIx_nat] at z; have := z.2; omega
      refine ⟨_, rfl, _, rfl, _, rfl, _, rfl, _, rfl, ta, xs, rfl, SqT.of hx5, ne1, fun p1 hp1 => ?_⟩
      rw [show cutV xs none (some ((i : Nat) : Int)) = xs.take i from cut_to _ _]
      have s1 : Same G' (upd G' p1 (.tup (xs.take i))) := same_new hp1
      have q1 : upd G' p1 (.tup (xs.take i)) p1 = some (.tup (xs.take i)) := upd_same
      generalize upd G' p1 (.tup (xs.take i)) = G1 at *
      refine ⟨_, rfl, (by show 1 ≤ sizeLine; decide), fun p2 hp2 => ?_⟩
      have s2 : Same G1 (upd G1 p2 (.tup [.ref u])) := same_new hp2
      have q2 : upd G1 p2 (.tup [.ref u]) p2 = some (.tup [.ref u]) := upd_same
      generalize upd G1 p2 (.tup [.ref u]) = G2 at *
      refine catA_ok (s2 _ _ q1) q2 (by rw [List.length_take, sizeLine_eq]; show _ + 1 ≤ _; omega) fun p3 G3 s3 q3 => ?_
      have s03 := s1.trans (s2.trans s3)
      have ne2 : ¬ (HT.sIx xs.length 0 (some ((i : Int) + 1)) = 0 ∧ HT.sIx xs.length xs.length none = xs.length) := fun z => by
        have e : ((i : Int) + 1) = ((i + 1 : Nat) : Int) := by omega
        rw [e, HT.sIx_nat] at z; have := z.1; omega
      refine ⟨_, rfl, _, rfl, _, _, rfl, rfl, _, rfl, ta, xs, rfl, SqT.of (s03 _ _ hx5), ne2, fun p4 hp4 => ?_⟩
      have ed : cutV xs (some ((i : Int) + 1)) none = xs.drop (i + 1) := by
        have e : ((i : Int) + 1) = ((i + 1 : Nat) : Int) := by omega
        rw [e]; exact cut_from _ _
      have s4 : Same G3 (upd G3 p4 (.tup (cutV xs (some ((i : Int) + 1)) none))) := same_new hp4
      have q4 : upd G3 p4 (.tup (cutV xs (some ((i : Int) + 1)) none)) p4 = some (.tup (xs.drop (i + 1))) := by rw [upd_same, ed]
      refine catA_ok (s4 _ _ q3) q4 (by rw [List.length_append, List.length_take, List.length_drop, sizeLine_eq]; show _ + 1 + _ ≤ _; omega) fun p5 G5 s5 q5 => ?_
      refine ⟨(by show 3 ≤ sizeLine; decide), fun p6 hp6 => ?_⟩
      have s6 : Same G5 (upd G5 p6 (.tup [.int sz, .int low, .ref p5])) := same_new hp6
      have sB := s03.trans (s4.trans (s5.trans s6))
      have rvE := rv4.keep (KeepU.of (sG'.trans sB))
      have hiR : i < rs.length := by rw [← rv.len]; exact hi
      refine k _ _ sz low (rs.take i ++ [some (a', le')] ++ rs.drop (i + 1)) (but_trans sbA (same_but (sG'.trans sB))) (B4.same (sG'.trans sB)) ⟨⟨p6, p5, rfl, upd_same, _, s6 _ _ q5, ?_⟩, by omega, by omega, ?_, ?_⟩
      · exact ((rvE.take i).app (.cons (.rc (sB _ _ hu')) .nil)).app (rvE.drop (i + 1))
      · rw [List.length_append, List.length_append, List.length_take, List.length_drop]
        show _ + 1 + _ ≤ 6
        omega
      · intro q hq
        rcases List.mem_append.mp hq with h | h
        · rcases List.mem_append.mp h with h | h
          · exact bn2 q (List.mem_of_mem_take h)
          · cases List.mem_singleton.mp h
            exact ⟨na', nl'⟩
        · exact bn2 q (List.mem_of_mem_drop h)
end
end IdL
namespace IdL
open PySem L2 TL
/-! ### what comes of a play, as the law tells it -/
abbrev sTd : Stmt := top 123
theorem scTd : FnScope ["_law_code", "_law_page", "_law_handed_here", "e"] ["_law_code", "_law_page", "_law_handed_here"] (defScope sTd) := ⟨rfl, rfl, rfl, by decide +kernel, rfl, by decide +kernel, by decide +kernel⟩
structure FTd (K : PySem.W.Frag) (mg : Str → Option Value) (f : Addr) (d : FuncData) : Prop where
  u : Fun K "_law_told" "_law_told" sTd f d
  b : Binds K d ["_law_code", "_law_page", "_law_handed_here"] []
  g : mg "_law_told" = some (.ref f)
def tupQ (f : Str) (v : V) (H : Hp) (Q : VK) : Prop := ∀ t H', Same H H' → H' t = some (.tup [.str f, v]) → Q (.ref t) H'
def spTd (K : PySem.W.Frag) (CC CP : Addr) : Sp := fun vs H Q _ => ∃ (c rx fa : Addr) (kd z : Str) (jv pg hv : V) (hd : PyData) (r : Ru), vs = [.ref c, pg, hv] ∧ CodeAt H c CC kd z rx fa jv ∧ RulesAt H rx CP r ∧ RuOk r ∧ Dp K H hv hd ∧
  ((∃ d, Dp K H pg d ∧ toldD d = false ∧ (∀ rs x y, d = .tuple [x, y, .tuple rs] → rs.length ≤ 1000) ∧ tupQ "page" pg H Q) ∨
    ∃ s low rs, PgAt H pg s low rs ∧ SmallR rs ∧ (¬ RightPage r s low rs → tupQ "page" pg H Q) ∧ (RightPage r s low rs → handedD kd rs hd = false → tupQ "handed" hv H Q) ∧
      (RightPage r s low rs → handedD kd rs hd = true → (kd = "pack" ∨ kd = "strike") ∧ SqT K H fa [] ∧ ∀ H', Same H H' → Q (.bl true) H'))
/-- the classes of errors, one held against another -/
structure Exm5 (K : PySem.W.Frag) (EP EH : Addr) : Prop where
  pp : PySem.W.exmOne K (.ref EP) (.ref EP) = some true
  hp : PySem.W.exmOne K (.ref EH) (.ref EP) = some false
  hh : PySem.W.exmOne K (.ref EH) (.ref EH) = some true
section
variable {P : Program} {w : World} {K : PySem.W.Frag} {mg : Str → Option Value} {base : Heap}
theorem ok_td {f fP CC CP CPP EP EH iP iH : Addr} {fd dP : FuncData} (F : Fun K "_law_told" "_law_told" sTd f fd) (OP : FnOk P w K mg base (CX P w) 6 fP dP ["code", "page", "handed"] (spPlay K CC CP CPP EP EH)) (bP : Binds K dP ["code", "page", "handed"] []) (gP : mg "play_page" = some (.ref fP)) (kP : PySem.W.keepIn K (.ref fP) = true) (O : OPl K CPP)
    (BP1 : BErr P K mg "BadPage" "BadPage.__init__" (inClass (top 7) 0) ["page"] EP iP) (BH1 : BErr P K mg "BadHanded" "BadHanded.__init__" (inClass (top 8) 0) ["handed"] EH iH) (X : Exm5 K EP EH) : FnOk P w K mg base CX0 7 f fd ["_law_code", "_law_page", "_law_handed_here"] (spTd K CC CP) := by
  refine F.ok scTd (fun vs H Q E h => ?_) (fun cdv A outer s H vs Q E hr h => ?_)
  · obtain ⟨c, rx, fa, kd, z, jv, pg, hv, hd, r, rfl, _⟩ := h
    rfl
  · obtain ⟨c, rx, fa, kd, z, jv, pg, hv, hd, r, rfl, hc, RA, R, dh, h⟩ := h
    refine ⟨_, pss_one (ps_try_cls (tb := fun W => tRet (tOp rNe (tFld K (tCallS (spPlay K CC CP CPP EP EH) (WE W) (tCons (tVar 0) (tCons (tVar 1) (tCons (tVar 2) tNil)))) "ended") (tC (.str "")))) rfl rfl scTd.nd takes0
        (fun W pn xe tk _ => pss_one (ps_ret (pe_cmpR op_ne (pe_fld (pe_callS OP hr rfl gP kP bP (fun σ => passAt tk σ) (pa_cons (pv 0) (pa_cons (pv 1) (pa_cons (pv 2) pa_nil)))) rfl) pe_str (nomark _))))
        (.cons (q := ⟨.ref EP, some 3, fun a cls d => tRet (tTup (tCons (tC (.str "page")) (tCons (tXf a cls d EP "page" (tVar 3)) tNil)))⟩) ⟨⟨rfl, by decide, .inl BP1.g⟩, ⟨rfl, rfl⟩, fun a oe cls d pn hz hf => by
          dsimp only
          refine pss_one ?_
          refine ps_ret ?_
          exact pe_tup (pa_cons pe_str (pa_cons (pe_xf BP1.T.xf (BP1.T.noN "page" (List.mem_cons_self ..)) hz hf (pv 3)) pa_nil))⟩
        (.cons (q := ⟨.ref EH, some 3, fun a cls d => tRet (tTup (tCons (tC (.str "handed")) (tCons (tXf a cls d EH "handed" (tVar 3)) tNil)))⟩) ⟨⟨rfl, by decide, .inl BH1.g⟩, ⟨rfl, rfl⟩, fun a oe cls d pn hz hf => by
          dsimp only
          refine pss_one ?_
          refine ps_ret ?_
          exact pe_tup (pa_cons pe_str (pa_cons (pe_xf BH1.T.xf (BH1.T.noN "handed" (List.mem_cons_self ..)) hz hf (pv 3)) pa_nil))⟩ .nil))), ?_⟩
    refine ⟨_, rfl, _, rfl, _, rfl, ?_⟩
    refine ⟨c, rx, fa, kd, z, jv, pg, hv, hd, r, rfl, hc, RA, R, dh, ?_⟩
    rcases h with ⟨d, dp, e0, few, kt⟩ | ⟨sz, low, rs, PA, S, kn, kh, kk⟩
    · refine .inl ⟨d, dp, e0, few, fun dd H' s' hd' => ⟨true, X.pp, fun _ a ha => ?_, fun z => nomatch z⟩⟩
      exact ⟨_, rfl, rfl, rfl, dd, _, _, rfl, hd', rfl, (by show 2 ≤ sizeLine; decide), fun t ht => kt t _ (s'.trans (same_new ht)) upd_same⟩
    · refine .inr ⟨sz, low, rs, PA, S, fun nr dd H' s' hd' => ⟨true, X.pp, fun _ a ha => ?_, fun z => nomatch z⟩, fun nr hh dd H' s' hd' => ⟨false, X.hp, (fun z => nomatch z), fun _ => ⟨true, X.hh, fun _ a ha => ?_, fun z => nomatch z⟩⟩, fun rp hh => ?_⟩
      · exact ⟨_, rfl, rfl, rfl, dd, _, _, rfl, hd', rfl, (by show 2 ≤ sizeLine; decide), fun t ht => kn nr t _ (s'.trans (same_new ht)) upd_same⟩
      · exact ⟨_, rfl, rfl, rfl, dd, _, _, rfl, hd', rfl, (by show 2 ≤ sizeLine; decide), fun t ht => kh nr hh t _ (s'.trans (same_new ht)) upd_same⟩
      · obtain ⟨q1, q2, q3⟩ := kk rp hh
        refine ⟨q1, q2, fun p H' s' ⟨dx, fs, e1, e2⟩ => ?_⟩
        refine ⟨p, CPP, dx, fs, _, rfl, e1, O.cl, O.no "ended" (by decide +kernel), e2, rfl, ?_⟩
        rw [show (!decide (V.str (("done" : Str)) = V.str "")) = true from by decide +kernel]
        exact q3 H' s'
end
end IdL
namespace IdL
open PySem L2 TL
/-! ### the law: what stands -/
def ruL : List Ru := [⟨0, 1, 1, none⟩, ⟨8, 4, 1, none⟩, ⟨3, 2, 2, none⟩, ⟨2, 3, 4, some 27⟩, ⟨1, 1, 1, some 12⟩]
theorem ru_ok : ∀ r ∈ ruL, RuOk r ∧ r.hd ≤ 8 := by
  intro r hr
  unfold ruL at hr
  rcases List.mem_cons.mp hr with e | hr
  · subst e; exact ⟨⟨by decide, by decide, by decide, by decide, by decide, by decide, fun m e => nomatch e⟩, by decide⟩
  rcases List.mem_cons.mp hr with e | hr
  · subst e; exact ⟨⟨by decide, by decide, by decide, by decide, by decide, by decide, fun m e => nomatch e⟩, by decide⟩
  rcases List.mem_cons.mp hr with e | hr
  · subst e; exact ⟨⟨by decide, by decide, by decide, by decide, by decide, by decide, fun m e => nomatch e⟩, by decide⟩
  rcases List.mem_cons.mp hr with e | hr
  · subst e; exact ⟨⟨by decide, by decide, by decide, by decide, by decide, by decide, fun m e => by cases e; decide⟩, by decide⟩
  rcases List.mem_cons.mp hr with e | hr
  · subst e; exact ⟨⟨by decide, by decide, by decide, by decide, by decide, by decide, fun m e => by cases e; decide⟩, by decide⟩
  cases hr
/-- a code of the law -/
def CdE (K : PySem.W.Frag) (H : Hp) (CC c : Addr) (kd : Str) (rx : Addr) : Prop := ∃ z fa jv, CodeAt H c CC kd z rx fa jv ∧ ((kd = "pack" ∨ kd = "strike") → SqT K H fa [])
structure LawE (K : PySem.W.Frag) (CC CP : Addr) (H : Hp) (ta rx cp cu ck co : Addr) (r : Ru) : Prop where
  num : NumAt H ta r
  mem : r ∈ ruL
  ru : RulesAt H rx CP r
  pack : CdE K H CC cp "pack" rx
  put : CdE K H CC cu "put" rx
  strike : CdE K H CC ck "strike" rx
  set : CdE K H CC co "set" rx
theorem but_tup {K : PySem.W.Frag} {H H' : Hp} {b l : Addr} {n : Nat} (B : BagL H b l n) (s : SameBut b H H') {a : Addr} {xs : List V} (h : SqT K H a xs) : SqT K H' a xs := by
  obtain ⟨ns, i, d, c, f, hb, _⟩ := B.ex
  rcases h with (h | ⟨o, h⟩) | h
  · exact .inl (.inl (s _ _ (fun y => by rw [y, hb] at h; cases h) h))
  · exact .inl (.inr ⟨o, s _ _ (fun y => by rw [y, hb] at h; cases h) h⟩)
  · exact .inr h
theorem CdE.but {K : PySem.W.Frag} {H H' : Hp} {b l : Addr} {n : Nat} (B : BagL H b l n) (s : SameBut b H H') {CC c : Addr} {kd : Str} {rx : Addr} (h : CdE K H CC c kd rx) : CdE K H' CC c kd rx := by
  obtain ⟨z, fa, jv, ⟨dx, rr, an, e⟩, hf⟩ := h
  exact ⟨z, fa, jv, ⟨dx, rr, an, s _ _ (fun y => (bag_kind B).2.2 _ _ _ (y ▸ e)) e⟩, fun k => but_tup B s (hf k)⟩
theorem LawE.but {K : PySem.W.Frag} {CC CP : Addr} {H H' : Hp} {b l : Addr} {n : Nat} (B : BagL H b l n) (s : SameBut b H H') {ta rx cp cu ck co : Addr} {r : Ru} (h : LawE K CC CP H ta rx cp cu ck co r) : LawE K CC CP H' ta rx cp cu ck co r := by
  obtain ⟨h1, h2, ⟨dx, h3⟩, h4, h5, h6, h7⟩ := h
  exact ⟨(B.ku s) _ _ h1, h2, ⟨dx, s _ _ (fun y => (bag_kind B).2.2 _ _ _ (y ▸ h3)) h3⟩, h4.but B s, h5.but B s, h6.but B s, h7.but B s⟩
theorem PgB.keep {H H' : Hp} (k : KeepU H H') {v : V} {s low : Int} {rs : List (Option Rec)} (h : PgB H v s low rs) : PgB H' v s low rs := ⟨h.at_.keep k, h.s, h.low, h.len, h.bn⟩
theorem PgB.small {H : Hp} {v : V} {s low : Int} {rs : List (Option Rec)} (h : PgB H v s low rs) : SmallR rs := by
  refine ⟨by have := h.len; omega, fun p hp => ?_⟩
  obtain ⟨q, hq, e⟩ := List.mem_filterMap.mp hp
  cases q with
  | none => cases e
  | some q =>
    cases e
    have := h.bn p hq
    omega
/-- the law's turn: what stands, and a page -/
structure Tn (K : PySem.W.Frag) (CC CP : Addr) (H : Hp) (ta rx cp cu ck co b l : Addr) (r : Ru) (m : Nat) (pg : V) (s low : Int) (rs : List (Option Rec)) : Prop where
  e : LawE K CC CP H ta rx cp cu ck co r
  bag : BagL H b l m
  pg : PgB H pg s low rs
section
variable {K : PySem.W.Frag} {CC CP ta rx cp cu ck co b l : Addr} {r : Ru} {m m' : Nat} {pg : V} {s low : Int} {rs : List (Option Rec)} {H H' : Hp}
theorem Tn.draw (h : Tn K CC CP H ta rx cp cu ck co b l r m pg s low rs) (t : SameBut b H H') (B : BagL H' b l m') : Tn K CC CP H' ta rx cp cu ck co b l r m' pg s low rs := ⟨h.e.but h.bag t, B, h.pg.keep (h.bag.ku t)⟩
theorem Tn.same (h : Tn K CC CP H ta rx cp cu ck co b l r m pg s low rs) (t : Same H H') : Tn K CC CP H' ta rx cp cu ck co b l r m pg s low rs := h.draw (same_but t) (h.bag.same t)
end
theorem pg_lay (s low : Int) (rs : List (Option Rec)) : PyData.canLay0 (pgD s low rs) = true ∧ PyData.depth (pgD s low rs) ≤ 3 := by
  obtain ⟨h1, h2⟩ := rows_lay rs
  refine ⟨?_, ?_⟩
  · show (true && (true && (PyData.canLayAll0 (rs.map recDt) && true))) = true
    rw [h1]; rfl
  · show max 0 (max 0 (max (PyData.depthAll (rs.map recDt) + 1) 0)) + 1 ≤ 3
    omega
theorem pair_shaped {f : Str} {d : PyData} (hf : PyData.strOk f = true) (h1 : PyData.canLay0 d = true) (h2 : PyData.depth d ≤ 60) : SeqAt.shaped (.tuple [.str f, d]) = true := by
  unfold SeqAt.shaped
  rw [Bool.and_eq_true]
  refine ⟨?_, decide_eq_true ?_⟩
  · show (PyData.strOk f && (PyData.canLay0 d && true)) = true
    rw [hf, h1]; rfl
  · show max 0 (max (PyData.depth d) 0) + 1 ≤ 64
    omega
/-- two pairs of one word and one thing -/
theorem ne_pair {K : PySem.W.Frag} {G : Hp} {t u : Addr} {f : Str} {v : V} {d : PyData} {Q : VK} (h1 : G t = some (.tup [.str f, v])) (h2 : G u = some (.tup [.str f, v])) (dv : Dp K G v d) (sh : SeqAt.shaped (.tuple [.str f, d]) = true) (k : Q (.bl false) G) : rNeD K (.ref t) (.ref u) G Q := by
  refine ⟨.tuple [.str f, d], .tuple [.str f, d], .tup (SqT.of h1) (.cons (.str f) (.cons dv .nil)), .tup (SqT.of h2) (.cons (.str f) (.cons dv .nil)), sh, sh, ?_⟩
  rw [SeqAt.eqv_refl _ (SeqAt.canLay_of_shaped sh)]
  exact k
theorem rows_none : Rows (linesOf "") := ⟨fun z h => absurd h List.not_mem_nil, fun z h => absurd h List.not_mem_nil, by decide⟩
theorem lines_quit : linesOf "quit" = (["quit"] : List Str) := by kernel_rfl
theorem rows_quit : Rows (linesOf "quit") := by
  rw [lines_quit]
  refine ⟨fun z h => ?_, fun z h => ?_, by decide⟩ <;> rw [List.mem_singleton.mp h]
  · exact (show ∀ c ∈ tl ("quit" : Str), c < 128 by decide +kernel)
  · decide +kernel
end IdL
namespace IdL
open PySem L2 TL
/-! ### the law -/
theorem made_same {H G : Hp} {x dx C : Addr} (nx : H x = none) (ndx : H dx = none) (kp : ∀ a o, a ≠ x → upd (upd H dx (.own x)) x (.ins C dx []) a = some o → G a = some o) : Same H G := fun a o e =>
  kp a o (fun y => by rw [y, nx] at e; cases e) (by rw [upd_ne (fun y => by rw [y, nx] at e; cases e), upd_ne (fun y => by rw [y, ndx] at e; cases e)]; exact e)
theorem roomI_lt {un n : Int} (hu : 1 ≤ un) : roomI un n < n + un := by
  unfold roomI
  have h1 := Int.mul_ediv_add_emod (-n) un
  have h2 := Int.emod_lt_of_pos (-n) (show 0 < un by omega)
  have h3 : -(-n / un) * un = -(un * (-n / un)) := by rw [Int.neg_mul, Int.mul_comm]
  omega
theorem next_some {r : Ru} (R : RuOk r) (h8 : r.hd ≤ 8) {n s : Int} (h : nextU r n = some s) (hn : n ≤ 30) : r.hd ≤ s ∧ s ≤ 1000 := by
  have e : s = roomI r.un (max n r.hd) := by
    unfold nextU at h
    cases hm : r.ms with
    | none => rw [hm] at h; exact (Option.some.inj h).symm
    | some m =>
      rw [hm] at h
      dsimp only at h
      split at h
      · cases h
      · exact (Option.some.inj h).symm
  have a1 := room_ge (n := max n r.hd) R.un0
  have a2 := roomI_lt (n := max n r.hd) R.un0
  have a3 := R.un1
  omega
abbrev sLaw : Stmt := top 124
def NLaw : List Str := ["_law_script", "_law_bag_here", "_law_told_here", "_law_rules", "_law_pack", "_law_put", "_law_strike", "_law_other", "_law_turn", "_law_size", "_law_page", "_law_right", "_law_odd", "_law_k", "_law_held", "_law_slot", "_law_things", "_law_code", "_law_thing", "_law_due", "_law_strange"]
theorem scLaw : FnScope NLaw ["_law_script"] (defScope sLaw) := ⟨rfl, rfl, rfl, by decide +kernel, rfl, by decide +kernel, by decide +kernel⟩
structure FBagL (K : PySem.W.Frag) (mg : Str → Option Value) (f : Addr) (d : FuncData) : Prop where
  u : Fun K "_law_bag" "_law_bag" sBag f d
  b : Binds K d ["_law_script"] []
  g : mg "_law_bag" = some (.ref f)
/-- the slots of the law -/
def sg (a b ta rx cp cu ck co : Addr) (v8 v9 v10 v11 v12 v13 v14 v15 v16 v17 v18 v19 : Option V) : St := [some (.ref a), some (.ref b), some (.ref ta), some (.ref rx), some (.ref cp), some (.ref cu), some (.ref ck), some (.ref co), v8, v9, v10, v11, v12, v13, v14, v15, v16, v17, v18, v19, none]
/-- the numbers of the slots with records -/
def hIx (rs : List (Option Rec)) (n : Nat) : List Int := ((List.range n).filter fun k => (rs.getD k none).isSome).map fun k : Nat => (k : Int)
theorem hIx_succ (rs : List (Option Rec)) (n : Nat) : hIx rs (n + 1) = hIx rs n ++ (if (rs.getD n none).isSome = true then [(n : Int)] else []) := by
  unfold hIx
  rw [List.range_succ, List.filter_append, List.map_append]
  by_cases h : (rs.getD n none).isSome = true
  · rw [if_pos h, List.filter_cons, if_pos h]; rfl
  · rw [if_neg h, List.filter_cons, if_neg h]; rfl
theorem hIx_len (rs : List (Option Rec)) (n : Nat) : (hIx rs n).length ≤ n := by
  unfold hIx
  rw [List.length_map]
  exact Nat.le_trans (List.length_filter_le _ _) (by rw [List.length_range]; exact Nat.le_refl _)
theorem hIx_mem {rs : List (Option Rec)} {n : Nat} {j : Int} (h : j ∈ hIx rs n) : ∃ m : Nat, j = m ∧ m < n ∧ (rs.getD m none).isSome = true := by
  unfold hIx at h
  obtain ⟨m, hm, e⟩ := List.mem_map.mp h
  obtain ⟨h1, h2⟩ := List.mem_filter.mp hm
  exact ⟨m, e.symm, List.mem_range.mp h1, h2⟩
/-- something that is handed wrongly -/
def ThingAt (K : PySem.W.Frag) (CC rx : Addr) (rs : List (Option Rec)) (G : Hp) (t : Addr) : Prop := ∃ (c : Addr) (kd : Str) (v : V) (d : PyData), G t = some (.tup [.ref c, v]) ∧ CdE K G CC c kd rx ∧ Dp K G v d ∧ handedD kd rs d = false ∧ SeqAt.shaped (.tuple [.str "handed", d]) = true
theorem CdE.same {K : PySem.W.Frag} {H H' : Hp} (s : Same H H') {CC c : Addr} {kd : Str} {rx : Addr} (h : CdE K H CC c kd rx) : CdE K H' CC c kd rx := by
  obtain ⟨z, fa, jv, e, hf⟩ := h
  exact ⟨z, fa, jv, e.same s, fun k => (KeepT.of s).seq (hf k)⟩
theorem ThingAt.same {K : PySem.W.Frag} {CC rx : Addr} {rs : List (Option Rec)} {G G' : Hp} (s : Same G G') {t : Addr} (h : ThingAt K CC rx rs G t) : ThingAt K CC rx rs G' t := by
  obtain ⟨c, kd, v, d, h1, h2, h3, h4, h5⟩ := h
  exact ⟨c, kd, v, d, s _ _ h1, h2.same s, Dp.same s h3, h4, h5⟩
theorem eq_pair {K : PySem.W.Frag} {G : Hp} {t u : Addr} {f : Str} {v : V} {d : PyData} {Q : VK} (h1 : G t = some (.tup [.str f, v])) (h2 : G u = some (.tup [.str f, v])) (dv : Dp K G v d) (sh : SeqAt.shaped (.tuple [.str f, d]) = true) (k : Q (.bl true) G) : rEqD K (.ref t) (.ref u) G Q := by
  refine ⟨.tuple [.str f, d], .tuple [.str f, d], .tup (SqT.of h1) (.cons (.str f) (.cons dv .nil)), .tup (SqT.of h2) (.cons (.str f) (.cons dv .nil)), sh, sh, ?_⟩
  rw [SeqAt.eqv_refl _ (SeqAt.canLay_of_shaped sh)]
  exact k
theorem heldD_nat (rs : List (Option Rec)) (m : Nat) : heldD rs (.int (m : Int)) = (decide (m < rs.length) && (rs.getD m none).isSome) := by
  show (decide ((0 : Int) ≤ (m : Int)) && (decide ((m : Int) < (rs.length : Int)) && (rs.getD (m : Int).toNat none).isSome)) = _
  rw [decide_eq_true (by omega), Bool.true_and, Int.toNat_natCast]
  congr 1
  exact decide_eq_decide.mpr (by omega)
theorem CdE.ups {K : PySem.W.Frag} {H : Hp} {p : Addr} {zs : List V} {o : HO} (e : H p = some (.lst zs)) {CC c : Addr} {kd : Str} {rx : Addr} (h : CdE K H CC c kd rx) : CdE K (upd H p o) CC c kd rx := by
  obtain ⟨z, fa, jv, ⟨dx, rr, an, q⟩, hf⟩ := h
  exact ⟨z, fa, jv, ⟨dx, rr, an, by rw [upd_ne (fun y => by rw [y, e] at q; cases q)]; exact q⟩, fun k => (KeepT.lst e).seq (hf k)⟩
/-- the same with a number -/
def ThingI (K : PySem.W.Frag) (CC rx : Addr) (rs : List (Option Rec)) (G : Hp) (t : Addr) : Prop := ∃ (c : Addr) (kd : Str) (j : Int), G t = some (.tup [.ref c, .int j]) ∧ CdE K G CC c kd rx ∧ handedD kd rs (.int j) = false
theorem ThingI.at_ {K : PySem.W.Frag} {CC rx : Addr} {rs : List (Option Rec)} {G : Hp} {t : Addr} (h : ThingI K CC rx rs G t) : ThingAt K CC rx rs G t := by
  obtain ⟨c, kd, j, h1, h2, h3⟩ := h
  exact ⟨c, kd, .int j, .int j, h1, h2, .int j, h3, by kernel_rfl⟩
theorem ThingI.same {K : PySem.W.Frag} {CC rx : Addr} {rs : List (Option Rec)} {G G' : Hp} (s : Same G G') {t : Addr} (h : ThingI K CC rx rs G t) : ThingI K CC rx rs G' t := by
  obtain ⟨c, kd, j, h1, h2, h3⟩ := h
  exact ⟨c, kd, j, s _ _ h1, h2.same s, h3⟩
theorem ThingI.ups {K : PySem.W.Frag} {H : Hp} {p : Addr} {zs : List V} {o : HO} (e : H p = some (.lst zs)) {CC rx : Addr} {rs : List (Option Rec)} {t : Addr} (h : ThingI K CC rx rs H t) : ThingI K CC rx rs (upd H p o) t := by
  obtain ⟨c, kd, j, h1, h2, h3⟩ := h
  exact ⟨c, kd, j, by rw [upd_ne (fun y => by rw [y, e] at h1; cases h1)]; exact h1, h2.ups e, h3⟩
def Things (K : PySem.W.Frag) (CC rx : Addr) (rs : List (Option Rec)) (G : Hp) (L : Addr) (k : Nat) : Prop := ∃ as : List Addr, G L = some (.lst (as.map V.ref)) ∧ (∀ t ∈ as, ThingAt K CC rx rs G t) ∧ as.length ≤ k
theorem ints_dp' {K : PySem.W.Frag} {H : Hp} : ∀ ns : List Int, DpAll K H (ns.map V.int) (ns.map PyData.int)
  | [] => .nil
  | n :: ns => .cons (.int n) (ints_dp' ns)
theorem ints_lay' : ∀ ns : List Int, PyData.canLayAll0 (ns.map PyData.int) = true ∧ PyData.depthAll (ns.map PyData.int) = 0
  | [] => ⟨rfl, rfl⟩
  | n :: ns => ⟨(ints_lay' ns).1, by show max 0 (PyData.depthAll (ns.map PyData.int)) = 0; rw [(ints_lay' ns).2]; rfl⟩
theorem ne_ints {K : PySem.W.Frag} {G : Hp} {p q : Addr} {ns : List Int} {Q : VK} (h1 : G p = some (.lst (ns.map V.int))) (h2 : G q = some (.lst [])) (k : Q (.bl (!ns.isEmpty)) G) : rNeD K (.ref p) (.ref q) G Q := by
  obtain ⟨l1, l2⟩ := ints_lay' ns
  refine ⟨.list (ns.map PyData.int), .list [], .lst (SqL.of h1) (ints_dp' ns), .lst (SqL.of h2) .nil, ?_, rfl, ?_⟩
  · unfold SeqAt.shaped
    rw [Bool.and_eq_true]
    refine ⟨l1, decide_eq_true ?_⟩
    show PyData.depthAll (ns.map PyData.int) + 1 ≤ 64
    omega
  · cases ns with
    | nil => exact k
    | cons _ _ => exact k
def spLaw (K : PySem.W.Frag) : Sp := fun vs H Q _ => ∃ (a : Addr) (ns : List Int), vs = [.ref a] ∧ SqL K H a (ns.map V.int) ∧ ns.length ≤ 63 ∧ ∀ H', Q (.bl true) H'
section
variable {P : Program} {w : World} {K : PySem.W.Frag} {mg : Str → Option Value} {base : Heap}
theorem ok_law {f fB fD fR fI fX fDP fSP fIS fTD CC CP : Addr} {fd dB dD dR dI dX dDP dSP dIS dTD : FuncData} (F : Fun K "law" "law" sLaw f fd) (BG : FBagL K mg fB dB) (OB : FnOk P w K mg base CX0 1 fB dB ["_law_script"] (spBagL K)) (DW : FDw K mg fD dD) (OD : FnOk P w K mg base CX0 1 fD dD ["_law_bag_here", "_law_limit"] spDrawL)
    (MR : Mk K CP fR) (OR : FnOk P w K mg base (CX P w) 3 fR dR ["self", "head", "slot", "unit", "most"] (spPR5 CP)) (gR : mg "PageRules" = some (.ref CP)) (bR : Binds K dR ["self", "head", "slot", "unit", "most"] []) (OR5 : ORul K CP)
    (MC : Mk K CC fI) (OI : FnOk P w K mg base (CX P w) 9 fI dI ["self", "kind", "rules", "text"] (spInit5 K CC)) (gC : mg "PageCode" = some (.ref CC)) (bI : Binds K dI ["self", "kind", "rules", "text"] [])
    (MX : Meth K CP "next_in_use" fX) (OX : FnOk P w K mg base (CX P w) 4 fX dX ["self", "size"] (spNx CP)) (bX : Binds K dX ["self", "size"] [])
    (DP : FDp K mg fDP dDP) (ODP : FnOk P w K mg base CX0 2 fDP dDP ["_law_bag_here", "_law_told_here", "_law_size"] spDp) (SP : FSp5 K mg fSP dSP) (OSP : FnOk P w K mg base CX0 2 fSP dSP ["_law_bag_here", "_law_page"] spSp5) (IS : FIs K mg fIS dIS) (OIS : FnOk P w K mg base CX0 2 fIS dIS ["_law_told_here", "_law_page"] spIs)
    (TDf : FTd K mg fTD dTD) (OTD : FnOk P w K mg base CX0 7 fTD dTD ["_law_code", "_law_page", "_law_handed_here"] (spTd K CC CP)) (T : Gv mg) : FnOk P w K mg base CX0 11 f fd ["_law_script"] (spLaw K) := by
  refine F.ok scLaw (fun vs H Q E h => ?_) (fun cdv A outer s H vs Q E hr h => ?_)
  · obtain ⟨a, ns, rfl, _⟩ := h
    rfl
  · obtain ⟨a, ns, rfl, hS, hlen, k⟩ := h
    have hr1 := hr.mono (show 1 ≤ 10 by decide)
    have hr2 := hr.mono (show 2 ≤ 10 by decide)
    have hr4 := hr.mono (show 4 ≤ 10 by decide)
    have hr7 := hr.mono (show 7 ≤ 10 by decide)
    have hr10 := hr.mono (show 10 ≤ 10 by decide)
    refine ⟨_, (pss_cons (ps_set (i := 1) scLaw.nd rfl (.inl rfl) (pe_call OB hr1 rfl BG.g BG.u.kp BG.b .nil pass0 (pa_cons (pv 0) pa_nil)))
 (pss_join (ps_set (i := 2) scLaw.nd rfl (.inl rfl) (pe_ix ix_list (pe_lst (pa_cons (pe_tup (pa_cons pe_int (pa_cons pe_int (pa_cons pe_int (pa_cons pe_non pa_nil))))) (pa_cons (pe_tup (pa_cons pe_int (pa_cons pe_int (pa_cons pe_int (pa_cons pe_non pa_nil))))) (pa_cons (pe_tup (pa_cons pe_int (pa_cons pe_int (pa_cons pe_int (pa_cons pe_non pa_nil))))) (pa_cons (pe_tup (pa_cons pe_int (pa_cons pe_int (pa_cons pe_int (pa_cons pe_int pa_nil))))) (pa_cons (pe_tup (pa_cons pe_int (pa_cons pe_int (pa_cons pe_int (pa_cons pe_int pa_nil))))) pa_nil)))))) (pe_call OD hr1 rfl DW.g DW.u.kp DW.b .nil pass0 (pa_cons (pv 1) (pa_cons pe_int pa_nil))) (fun _ _ => rfl)))
 (pss_cons (ps_set (i := 3) scLaw.nd rfl (.inl rfl) (pe_make MR OR hr4 rfl gR bR .nil (passes_call (E := E0) takes0 fun _ _ _ _ z => z) (pa_cons (pe_ix ix_tup (pv 2) pe_int (fun _ _ => rfl)) (pa_cons (pe_ix ix_tup (pv 2) pe_int (fun _ _ => rfl)) (pa_cons (pe_ix ix_tup (pv 2) pe_int (fun _ _ => rfl)) (pa_cons (pe_ix ix_tup (pv 2) pe_int (fun _ _ => rfl)) pa_nil))))))
 (pss_cons (ps_par (i := 4) (j := 5) (by rfl) scLaw.nd rfl rfl (by decide) rfl rfl (pa_cons (pe_make MC OI hr10 rfl gC bI .nil (passes_call (E := E0) takes0 fun _ _ _ _ z => z) (pa_cons pe_str (pa_cons (pv 3) (pa_cons pe_str pa_nil)))) (pa_cons (pe_make MC OI hr10 rfl gC bI .nil (passes_call (E := E0) takes0 fun _ _ _ _ z => z) (pa_cons pe_str (pa_cons (pv 3) (pa_cons pe_str pa_nil)))) pa_nil)) (by rfl))
 (pss_cons (ps_asg (pe_tup (pa_cons (pe_make MC OI hr10 rfl gC bI .nil (passes_call (E := E0) takes0 fun _ _ _ _ z => z) (pa_cons pe_str (pa_cons (pv 3) (pa_cons pe_str pa_nil)))) (pa_cons (pe_make MC OI hr10 rfl gC bI .nil (passes_call (E := E0) takes0 fun _ _ _ _ z => z) (pa_cons pe_str (pa_cons (pv 3) (pa_cons pe_str pa_nil)))) pa_nil))) (pg_tup rfl (pgs_cons (pg_name (i := 6) scLaw.nd rfl (.inr rfl)) (pgs_cons (pg_name (i := 7) scLaw.nd rfl (.inl rfl)) pgs_nil))))
 (pss_cons (ps_for PassesOwn.never rfl (pi_range1 (by rfl) T.range (pa_cons pe_int pa_nil)) (pg_name (i := 8) scLaw.nd rfl (.inl rfl)) (pss_cons (ps_set (i := 9) scLaw.nd rfl (.inl rfl) (pe_meth (pv 3) OR5.cl MX OX hr4 bX .nil (passes_call (E := E0) takes0 fun _ _ _ _ z => z) (pa_cons (pe_op op_add pe_int (pe_call OD hr1 rfl DW.g DW.u.kp DW.b .nil pass0 (pa_cons (pv 1) (pa_cons pe_int pa_nil)))) pa_nil)))
 (pss_join (ps_set (i := 10) scLaw.nd rfl (.inr rfl) (pe_cut (pe_ifExp (pt_cmpR op_isN (pv 9) pe_non (nomark _)) pe_non (pe_call ODP hr2 rfl DP.g DP.u.kp DP.b .nil pass0 (pa_cons (pv 1) (pa_cons (pv 2) (pa_cons (pv 9) pa_nil)))))))
 (pss_one (ps_if (pt_cmpR op_notN (pv 10) pe_non (nomark _)) (pss_join (ps_set (i := 10) scLaw.nd rfl (.inr rfl) (pe_cut (pe_ifExp (pt_cmpR op_gt (pe_call OD hr1 rfl DW.g DW.u.kp DW.b .nil pass0 (pa_cons (pv 1) (pa_cons pe_int pa_nil))) pe_int (nomark _)) (pe_call OSP hr2 rfl SP.g SP.u.kp SP.b .nil pass0 (pa_cons (pv 1) (pa_cons (pv 10) pa_nil))) (pv 10))))
 (pss_cons (ps_set (i := 11) scLaw.nd rfl (.inl rfl) (pe_call OIS hr2 rfl IS.g IS.u.kp IS.b .nil pass0 (pa_cons (pv 2) (pa_cons (pv 10) pa_nil))))
 (pss_join (ps_if (pt_cmpR (op_neD hr.units) (pe_call OTD hr7 rfl TDf.g TDf.u.kp TDf.b .nil pass0 (pa_cons (pv 4) (pa_cons (pv 10) (pa_cons pe_non pa_nil)))) (pe_cut (pe_ifExp (pt_val (pv 11)) pe_bl (pe_tup (pa_cons pe_str (pa_cons (pv 10) pa_nil))))) (nomark _)) (pss_one (ps_ret pe_bl)) pss_nil)
 (pss_join (ps_set (i := 12) scLaw.nd rfl (.inl rfl) (pe_ix ix_list (pe_lst (pa_cons pe_int (pa_cons (pe_un un_neg pe_int) (pa_cons pe_non (pa_cons pe_str (pa_cons pe_bl (pa_cons (pe_tup (pa_cons pe_int pa_nil)) (pa_cons (pe_lst (pa_cons pe_int pa_nil)) pa_nil)))))))) (pe_call OD hr1 rfl DW.g DW.u.kp DW.b .nil pass0 (pa_cons (pv 1) (pa_cons pe_int pa_nil))) (fun _ _ => rfl)))
 (pss_join (ps_if (PW.pt (pw_and (pt_val (pv 11)) (pw_and1 (pt_cmpR (op_neD hr.units) (pe_call OTD hr7 rfl TDf.g TDf.u.kp TDf.b .nil pass0 (pa_cons (pv 5) (pa_cons (pv 10) (pa_cons (pv 12) pa_nil)))) (pe_tup (pa_cons pe_str (pa_cons (pv 12) pa_nil))) (nomark _))))) (pss_one (ps_ret pe_bl)) pss_nil)
 (pss_join (ps_setLc (i := 14) (own := [("_law_k", 13)]) (g := (gName 13)) (by rfl) scLaw.nd rfl rfl (sw_true rfl rfl rfl (by decide +kernel)) (pi_range1 (by rfl) T.range (pa_cons (pe_callB call_len_seq (by rfl) T.len PySem.boot_len (pa_cons (pe_ix ix_tup (pv 10) pe_int (fun _ _ => rfl)) pa_nil)) pa_nil)) (blkOk_by (N := NLaw) (sc := defScope sLaw) (by decide +kernel)) (fun _ _ _ _ _ => (pg_name (i := 13) scLaw.nd rfl (.inl rfl))) (fun _ _ _ _ _ => (pts_one (pt_cmpR op_notN (pe_ix (r := rIxT K) ix_tup (pe_ix (r := rIxT K) ix_tup (pv 10) pe_int (fun _ _ => rfl)) (pv 13) (fun _ _ => rfl)) pe_non (nomark _)))) (fun _ _ _ _ _ => (pv 13)))
 (pss_join (ps_set (i := 15) scLaw.nd rfl (.inl rfl) (pe_cut (pe_ifExp (pt_cmpR (op_neD hr.units) (pv 14) (pe_lst pa_nil) (nomark _)) (pe_ix ix_list (pv 14) pe_int (fun _ _ => rfl)) (pe_callB call_len_seq (by rfl) T.len PySem.boot_len (pa_cons (pe_ix ix_tup (pv 10) pe_int (fun _ _ => rfl)) pa_nil)))))
 (pss_join (ps_set (i := 16) scLaw.nd rfl (.inl rfl) (pe_lst (pa_cons (pe_tup (pa_cons (pv 6) (pa_cons (pe_tup (pa_cons (pv 15) pa_nil)) pa_nil))) (pa_cons (pe_tup (pa_cons (pv 7) (pa_cons (pe_tup (pa_cons (pv 15) (pa_cons pe_int pa_nil))) pa_nil))) (pa_cons (pe_tup (pa_cons (pv 7) (pa_cons (pv 15) pa_nil))) (pa_cons (pe_tup (pa_cons (pv 4) (pa_cons pe_int pa_nil))) (pa_cons (pe_tup (pa_cons (pv 6) (pa_cons pe_bl pa_nil))) (pa_cons (pe_tup (pa_cons (pv 6) (pa_cons (pe_un un_neg pe_int) pa_nil))) pa_nil))))))))
 (pss_join (ps_set (i := 16) scLaw.nd rfl (.inl rfl) (pe_op op_cat (pv 16) (pe_lst (pa_cons (pe_tup (pa_cons (pv 6) (pa_cons (pe_callB call_len_seq (by rfl) T.len PySem.boot_len (pa_cons (pe_ix ix_tup (pv 10) pe_int (fun _ _ => rfl)) pa_nil)) pa_nil))) (pa_cons (pe_tup (pa_cons (pv 7) (pa_cons (pe_lst (pa_cons (pv 15) (pa_cons pe_int pa_nil))) pa_nil))) (pa_cons (pe_tup (pa_cons (pv 7) (pa_cons (pe_tup (pa_cons (pe_un un_neg pe_int) (pa_cons pe_int pa_nil))) pa_nil))) (pa_cons (pe_tup (pa_cons (pv 7) (pa_cons (pe_tup (pa_cons (pv 15) (pa_cons pe_bl pa_nil))) pa_nil))) pa_nil)))))))
 (pss_join (ps_set (i := 16) scLaw.nd rfl (.inl rfl) (pe_op op_cat (pv 16) (pe_lc (own := [("_law_k", 13)]) (g := (gName 13)) (by rfl) scLaw.nd (pi_range1 (by rfl) T.range (pa_cons (pe_callB call_len_seq (by rfl) T.len PySem.boot_len (pa_cons (pe_ix ix_tup (pv 10) pe_int (fun _ _ => rfl)) pa_nil)) pa_nil)) (blkOk_by (N := NLaw) (sc := defScope sLaw) (by decide +kernel)) (fun _ _ _ _ _ => (pg_name (i := 13) scLaw.nd rfl (.inl rfl))) (fun _ _ _ _ _ => (pts_one (pt_cmpR op_isN (pe_ix (r := rIxT K) ix_tup (pe_ix (r := rIxT K) ix_tup (pv 10) pe_int (fun _ _ => rfl)) (pv 13) (fun _ _ => rfl)) pe_non (nomark _)))) (fun _ _ _ _ _ => (pe_tup (pa_cons (pv 6) (pa_cons (pv 13) pa_nil)))))))
 (pss_join (ps_for PassesOwn.never rfl (pi_list (pv 16)) (pg_tup rfl (pgs_cons (pg_name (i := 17) scLaw.nd rfl (.inl rfl)) (pgs_cons (pg_name (i := 18) scLaw.nd rfl (.inl rfl)) pgs_nil))) (pss_one (ps_if (PW.pt (pw_and (pt_val (pv 11)) (pw_and1 (pt_cmpR (op_neD hr.units) (pe_call OTD hr7 rfl TDf.g TDf.u.kp TDf.b .nil pass0 (pa_cons (pv 17) (pa_cons (pv 10) (pa_cons (pv 18) pa_nil)))) (pe_tup (pa_cons pe_str (pa_cons (pv 18) pa_nil))) (nomark _))))) (pss_one (ps_ret pe_bl)) pss_nil)))
 (pss_join (ps_set (i := 19) scLaw.nd rfl (.inl rfl) (pe_cut (pe_ifExp (pt_cmpR (op_neD hr.units) (pv 14) (pe_lst pa_nil) (nomark _)) pe_bl (pe_tup (pa_cons pe_str (pa_cons (pv 15) pa_nil))))))
 (pss_one (ps_if (PW.pt (pw_and (pt_val (pv 11)) (pw_and1 (pt_cmpR (op_neD hr.units) (pe_call OTD hr7 rfl TDf.g TDf.u.kp TDf.b .nil pass0 (pa_cons (pv 6) (pa_cons (pv 10) (pa_cons (pv 15) pa_nil)))) (pv 19) (nomark _))))) (pss_one (ps_ret pe_bl)) pss_nil)))))))))))))) pss_nil)))))
 (pss_cons (ps_set (i := 20) scLaw.nd rfl (.inl rfl) (pe_lst (pa_cons pe_non (pa_cons (pe_tup (pa_cons pe_int (pa_cons pe_int pa_nil))) (pa_cons (pe_lst (pa_cons pe_int (pa_cons pe_int (pa_cons (pe_tup pa_nil) pa_nil)))) (pa_cons (pe_tup (pa_cons pe_int (pa_cons pe_int (pa_cons (pe_lst pa_nil) pa_nil)))) (pa_cons (pe_tup (pa_cons pe_int (pa_cons pe_str (pa_cons (pe_tup pa_nil) pa_nil)))) (pa_cons (pe_tup (pa_cons pe_bl (pa_cons pe_int (pa_cons (pe_tup pa_nil) pa_nil)))) (pa_cons (pe_tup (pa_cons pe_int (pa_cons pe_int (pa_cons (pe_tup (pa_cons (pe_tup (pa_cons pe_int pa_nil)) pa_nil)) pa_nil)))) pa_nil)))))))))
 (pss_cons (ps_expr (pe_bm PySem.F.plainAttrs_list PySem.F.slot_list_append PySem.F.type_list_append mt_append (pv 20) (pa_cons pe_str pa_nil)))
 (pss_join (ps_set (i := 20) scLaw.nd rfl (.inl rfl) (pe_ix ix_list (pv 20) (pe_call OD hr1 rfl DW.g DW.u.kp DW.b .nil pass0 (pa_cons (pv 1) (pa_cons pe_int pa_nil))) (fun _ _ => rfl)))
 (pss_one (ps_ret (pe_cmpR (op_eqD hr.units) (pe_call OTD hr7 rfl TDf.g TDf.u.kp TDf.b .nil pass0 (pa_cons (pv 5) (pa_cons (pv 20) (pa_cons pe_int pa_nil)))) (pe_tup (pa_cons pe_str (pa_cons (pv 20) pa_nil))) (nomark _))))))))))))), ?_⟩
    refine ⟨_, rfl, a, ns, rfl, hS, hlen, fun b l H1 nb0 s1 B1 => ?_⟩
    refine ⟨fun σ G => ∃ (ta : Addr) (r : Ru), σ = [some (.ref a), some (.ref b), some (.ref ta), none, none, none, none, none, none, none, none, none, none, none, none, none, none, none, none, none, none] ∧ NumAt G ta r ∧ r ∈ ruL ∧ BagL G b l 1, ?_, ?_⟩
    · refine ⟨(by show 4 ≤ sizeLine; decide), fun t0 n0 => ?_⟩
      have z0 := same_new (o := .tup [.int 0, .int 1, .int 1, .non]) n0
      have e0 : upd H1 t0 (.tup [.int 0, .int 1, .int 1, .non]) t0 = _ := upd_same
      generalize upd H1 t0 (.tup [.int 0, .int 1, .int 1, .non]) = G0 at *
      refine ⟨(by show 4 ≤ sizeLine; decide), fun t1 n1 => ?_⟩
      have z1 := same_new (o := .tup [.int 8, .int 4, .int 1, .non]) n1
      have e1 : upd G0 t1 (.tup [.int 8, .int 4, .int 1, .non]) t1 = _ := upd_same
      generalize upd G0 t1 (.tup [.int 8, .int 4, .int 1, .non]) = G1 at *
      refine ⟨(by show 4 ≤ sizeLine; decide), fun t2 n2 => ?_⟩
      have z2 := same_new (o := .tup [.int 3, .int 2, .int 2, .non]) n2
      have e2 : upd G1 t2 (.tup [.int 3, .int 2, .int 2, .non]) t2 = _ := upd_same
      generalize upd G1 t2 (.tup [.int 3, .int 2, .int 2, .non]) = G2 at *
      refine ⟨(by show 4 ≤ sizeLine; decide), fun t3 n3 => ?_⟩
      have z3 := same_new (o := .tup [.int 2, .int 3, .int 4, .int 27]) n3
      have e3 : upd G2 t3 (.tup [.int 2, .int 3, .int 4, .int 27]) t3 = _ := upd_same
      generalize upd G2 t3 (.tup [.int 2, .int 3, .int 4, .int 27]) = G3 at *
      refine ⟨(by show 4 ≤ sizeLine; decide), fun t4 n4 => ?_⟩
      have z4 := same_new (o := .tup [.int 1, .int 1, .int 1, .int 12]) n4
      have e4 : upd G3 t4 (.tup [.int 1, .int 1, .int 1, .int 12]) t4 = _ := upd_same
      generalize upd G3 t4 (.tup [.int 1, .int 1, .int 1, .int 12]) = G4 at *
      refine ⟨(by show 5 ≤ sizeLine; decide), fun q nq => ?_⟩
      have z5 := same_new (o := .lst [.ref t0, .ref t1, .ref t2, .ref t3, .ref t4]) nq
      have e5 : upd G4 q (.lst [.ref t0, .ref t1, .ref t2, .ref t3, .ref t4]) q = _ := upd_same
      generalize upd G4 q (.lst [.ref t0, .ref t1, .ref t2, .ref t3, .ref t4]) = G5 at *
      have B5 := B1.same (z0.trans (z1.trans (z2.trans (z3.trans (z4.trans z5)))))
      refine ⟨_, rfl, b, l, _, 5, rfl, B5, by decide, by decide, by decide, fun x G6 x0 x1 sb B6 => ?_⟩
      have ku := B5.ku sb
      have nqb : q ≠ b := fun y => (bag_kind B5).2.1 _ (y ▸ e5)
      have e6 := sb _ _ nqb e5
      rcases (by omega : x = 0 ∨ x = 1 ∨ x = 2 ∨ x = 3 ∨ x = 4) with e | e | e | e | e
      · subst e
        exact ⟨q, _, 0, .ref t0, rfl, rfl, SqL.of e6, atI_nat (j := 0) rfl, t0, ⟨0, 1, 1, none⟩, rfl, ku _ _ (z5 _ _ (z4 _ _ (z3 _ _ (z2 _ _ (z1 _ _ e0))))), by unfold ruL; simp, B6⟩
      · subst e
        exact ⟨q, _, 1, .ref t1, rfl, rfl, SqL.of e6, atI_nat (j := 1) rfl, t1, ⟨8, 4, 1, none⟩, rfl, ku _ _ (z5 _ _ (z4 _ _ (z3 _ _ (z2 _ _ e1)))), by unfold ruL; simp, B6⟩
      · subst e
        exact ⟨q, _, 2, .ref t2, rfl, rfl, SqL.of e6, atI_nat (j := 2) rfl, t2, ⟨3, 2, 2, none⟩, rfl, ku _ _ (z5 _ _ (z4 _ _ (z3 _ _ e2))), by unfold ruL; simp, B6⟩
      · subst e
        exact ⟨q, _, 3, .ref t3, rfl, rfl, SqL.of e6, atI_nat (j := 3) rfl, t3, ⟨2, 3, 4, some 27⟩, rfl, ku _ _ (z5 _ _ (z4 _ _ e3)), by unfold ruL; simp, B6⟩
      · subst e
        exact ⟨q, _, 4, .ref t4, rfl, rfl, SqL.of e6, atI_nat (j := 4) rfl, t4, ⟨1, 1, 1, some 12⟩, rfl, ku _ _ (z5 _ _ e4), by unfold ruL; simp, B6⟩
    rintro σ G ⟨ta, r, rfl, hta, hr5, Bb⟩
    obtain ⟨R, h8⟩ := ru_ok r hr5
    refine ⟨_, rfl, ta, _, 0, .int r.hd, rfl, rfl, SqT.of hta, atI_nat (j := 0) rfl, _, rfl, ta, _, 1, .int r.sl, rfl, rfl, SqT.of hta, atI_nat (j := 1) rfl, _, rfl, ta, _, 2, .int r.un, rfl, rfl, SqT.of hta, atI_nat (j := 2) rfl, _, rfl, ta, _, 3, mostV r.ms, rfl, rfl, SqT.of hta, atI_nat (j := 3) rfl, fun rx dx nx ndx nex => ?_⟩
    refine ⟨rx, dx, r, rfl, R, upd_same, fun G1 kp1 RA1 => ⟨rfl, ?_⟩⟩
    have sa1 := made_same nx ndx kp1
    clear kp1
    refine ⟨_, rfl, fun cp d1 n1 m1 x1 => ?_⟩
    refine ⟨cp, d1, rx, "pack", "", [], [], [], rfl, (by decide +kernel), upd_same, (by decide), rows_none, code_none, least_none, fun G2 f1 j1 u1 kp2 C1 F1 td1 _ => ⟨rfl, ?_⟩⟩
    have sa2 := made_same n1 m1 kp2
    cases td1
    clear kp2
    refine ⟨_, rfl, fun cu d2 n2 m2 x2 => ?_⟩
    refine ⟨cu, d2, rx, "put", "quit", ["quit"], dsQ, [], rfl, (by decide +kernel), upd_same, (by decide), rows_quit, code_quit, least_quit quit_put, fun G3 f2 j2 u2 kp3 C2 F2 td2 _ => ⟨rfl, ?_⟩⟩
    have sa3 := made_same n2 m2 kp3
    clear kp3
    refine ⟨_, _, rfl, ?_⟩
    refine ⟨_, rfl, fun ck d3 n3 m3 x3 => ?_⟩
    refine ⟨ck, d3, rx, "strike", "", [], [], [], rfl, (by decide +kernel), upd_same, (by decide), rows_none, code_none, least_none, fun G4 f3 j3 u3 kp4 C3 F3 td3 _ => ⟨rfl, ?_⟩⟩
    have sa4 := made_same n3 m3 kp4
    cases td3
    clear kp4
    refine ⟨_, rfl, fun co d4 n4 m4 x4 => ?_⟩
    refine ⟨co, d4, rx, "set", "quit", ["quit"], dsQ, [], rfl, (by decide +kernel), upd_same, (by decide), rows_quit, code_quit, least_quit quit_set, fun G5 f4 j4 u4 kp5 C4 F4 td4 _ => ⟨rfl, ?_⟩⟩
    have sa5 := made_same n4 m4 kp5
    clear kp5
    refine ⟨(by show 2 ≤ sizeLine; decide), fun tt ntt => ?_⟩
    have sa6 := same_new (o := .tup [.ref ck, .ref co]) ntt
    have ett : upd G5 tt (.tup [.ref ck, .ref co]) tt = some (.tup [.ref ck, .ref co]) := upd_same
    generalize upd G5 tt (.tup [.ref ck, .ref co]) = G6 at *
    refine ⟨tt, _, rfl, SqT.of ett, rfl, _, _, rfl, _, _, rfl, rfl, ?_⟩
    have L0 : LawE K CC CP G6 ta rx cp cu ck co r :=
      ⟨sa6 _ _ (sa5 _ _ (sa4 _ _ (sa3 _ _ (sa2 _ _ (sa1 _ _ hta))))), hr5, RA1.imp fun _ e => sa6 _ _ (sa5 _ _ (sa4 _ _ (sa3 _ _ (sa2 _ _ e)))),
        ⟨_, f1, _, C1.same (sa3.trans (sa4.trans (sa5.trans sa6))), fun _ => (KeepT.of (sa3.trans (sa4.trans (sa5.trans sa6)))).seq F1⟩, ⟨_, f2, _, C2.same (sa4.trans (sa5.trans sa6)), fun y => by rcases y with y | y <;> exact absurd y (by decide)⟩,
        ⟨_, f3, _, C3.same (sa5.trans sa6), fun _ => (KeepT.of (sa5.trans sa6)).seq F3⟩, ⟨_, f4, _, C4.same sa6, fun y => by rcases y with y | y <;> exact absurd y (by decide)⟩⟩
    have B0 := Bb.same (sa1.trans (sa2.trans (sa3.trans (sa4.trans (sa5.trans sa6)))))
    clear hta RA1 C1 C2 C3 C4 F1 F2 F3 F4 td2 td4 sa1 sa2 sa3 sa4 sa5 sa6 ett ntt
    refine ⟨6, rfl, by decide, by decide, for_range (n := 6) (fun i σ G => ∃ v8 v9 v10 v11 v12 v13 v14 v15 v16 v17 v18 v19 : Option V, σ = sg a b ta rx cp cu ck co v8 v9 v10 v11 v12 v13 v14 v15 v16 v17 v18 v19 ∧ LawE K CC CP G ta rx cp cu ck co r ∧ BagL G b l (1 + 100 * i))
      ⟨none, none, none, none, none, none, none, none, none, none, none, none, rfl, L0, B0⟩ ?_ ?_⟩
    · rintro i σ G7 hi ⟨v8, v9, v10, v11, v12, v13, v14, v15, v16, v17, v18, v19, rfl, L, B⟩
      obtain ⟨rdx, hrx⟩ := id L.ru
      refine ⟨_, rfl, rx, rdx, _, rfl, hrx, rfl, _, rfl, b, l, _, 30, rfl, B, by omega, by decide, by decide, fun x G8 x0 x1 sb8 B8 => ?_⟩
      have L8 := L.but B sb8
      refine ⟨_, _, rfl, rfl, rx, r, 1 + x, rfl, R, L8.ru, by omega, by omega, ?_⟩
      have nx := fun s => next_some (n := 1 + x) (s := s) R h8
      generalize nextU r (1 + x) = nu at *
      -- the page
      refine ⟨fun σ G => ∃ (v8 v9 : Option V) (vp : V), σ = sg a b ta rx cp cu ck co v8 v9 (some vp) v11 v12 v13 v14 v15 v16 v17 v18 v19 ∧ LawE K CC CP G ta rx cp cu ck co r ∧ BagL G b l (1 + 100 * i + 61) ∧ (vp = .non ∨ ∃ s low rs, PgAt G vp s low rs ∧ s.natAbs ≤ 1000000 ∧ low.natAbs ≤ 1000000 ∧ rs.length ≤ 6 ∧ BndR 1000000 rs), ?_, ?_⟩
      · refine ⟨fun v G => LawE K CC CP G ta rx cp cu ck co r ∧ BagL G b l (1 + 100 * i + 61) ∧ (v = .non ∨ ∃ s low rs, PgAt G v s low rs ∧ s.natAbs ≤ 1000000 ∧ low.natAbs ≤ 1000000 ∧ rs.length ≤ 6 ∧ BndR 1000000 rs), ?_, fun v G h => ⟨_, _, v, rfl, h⟩⟩
        refine ⟨_, rfl, rfl, _, rfl, ?_⟩
        cases nu with
        | none => exact iteY rfl ⟨L8, B8.more (by omega), .inl rfl⟩
        | some sz =>
          obtain ⟨z1, z2⟩ := nx sz rfl (by omega)
          have z3 := R.hd0
          refine iteN (fun z => nomatch z) ⟨_, rfl, _, rfl, _, rfl, b, l, ta, _, r, sz, rfl, B8, by omega, L8.num, R, z1, z2, fun v G9 sb9 B9 hv => ⟨L8.but B8 sb9, B9.more (by omega), ?_⟩⟩
          rcases hv with e | ⟨low, rs, h1, h2, h3, h4⟩
          · exact .inl e
          · exact .inr ⟨sz, low, rs, h1, by omega, h2, h3, h4⟩
      clear L8 B8 sb8 nx
      rintro σ G9 ⟨v8, v9, vp, rfl, L9, B9, hp⟩
      refine ⟨_, rfl, rfl, _, rfl, ?_⟩
      by_cases hn : vp = .non
      · exact iteNS hn ⟨_, _, _, _, _, _, _, _, _, _, _, _, rfl, L9, B9.more (by omega)⟩
      refine iteNN hn ?_
      rcases hp with e | ⟨s0, low0, rs0, PA, bs, bl, ln, bn⟩
      · exact absurd e hn
      -- spoiled or not
      refine ⟨fun σ G => ∃ (v8 v9 : Option V) (vp : V) (s low : Int) (rs : List (Option Rec)), σ = sg a b ta rx cp cu ck co v8 v9 (some vp) v11 v12 v13 v14 v15 v16 v17 v18 v19 ∧ Tn K CC CP G ta rx cp cu ck co b l r (1 + 100 * i + 65) vp s low rs, ?_, ?_⟩
      · refine ⟨fun v G => ∃ (s low : Int) (rs : List (Option Rec)), Tn K CC CP G ta rx cp cu ck co b l r (1 + 100 * i + 65) v s low rs, ?_, fun v G ⟨s, low, rs, h⟩ => ⟨_, _, v, s, low, rs, rfl, h⟩⟩
        refine ⟨_, rfl, b, l, _, 3, rfl, B9, by omega, by decide, by decide, fun x Ga x0 x1 sba Ba => ?_⟩
        have La := L9.but B9 sba
        have PAa := PA.keep (B9.ku sba)
        refine ⟨_, _, rfl, rfl, _, rfl, ite2 (fun _ => ?_) (fun _ => ?_)⟩
        · exact ⟨_, rfl, _, rfl, b, l, _, vp, s0, low0, rs0, rfl, Ba, by omega, PAa, bs, bl, ln, bn, fun v Gb s' low' rs' sbb Bb' PB => ⟨s', low', rs', La.but Ba sbb, Bb'.more (by omega), PB⟩⟩
        · exact ⟨_, rfl, s0, low0, rs0, La, Ba.more (by omega), ⟨PAa, by omega, by omega, ln, bn.mono (by decide)⟩⟩
      clear PA bs bl ln bn hn B9 L9
      rintro σ Ga ⟨v8, v9, vp, s, low, rs, rfl, Ta⟩
      refine ⟨_, rfl, _, rfl, ta, r, vp, s, low, rs, rfl, Ta.e.num, R, Ta.pg.at_, Ta.pg.small, fun rb Gb hrb sab => ?_⟩
      have Tb := Ta.same sab
      clear Ta sab
      -- a pack
      refine ⟨fun σ G => σ = sg a b ta rx cp cu ck co v8 v9 (some vp) (some (.bl rb)) v12 v13 v14 v15 v16 v17 v18 v19 ∧ Tn K CC CP G ta rx cp cu ck co b l r (1 + 100 * i + 65) vp s low rs, ?_, ?_⟩
      · obtain ⟨z, fa, jv, CA, hf⟩ := Tb.e.pack
        obtain ⟨lay1, lay2⟩ := pg_lay s low rs
        refine ⟨_, rfl, _, rfl, cp, rx, fa, "pack", z, jv, vp, .non, .none, r, rfl, CA, Tb.e.ru, R, .non, .inr ⟨s, low, rs, Tb.pg.at_, Tb.pg.small, fun nr t G2 s2 h2 => ?_, fun _ hh => ?_, fun rp _ => ⟨.inl rfl, hf (.inl rfl), fun G2 s2 => ?_⟩⟩⟩
        · have er : rb = false := Bool.eq_false_iff.mpr fun y => nr (hrb.mp y)
          subst er
          refine ⟨fun v G => ∃ u, v = .ref u ∧ Same G2 G ∧ G u = some (.tup [.str "page", vp]), ⟨_, rfl, _, rfl, iteF ⟨_, rfl, (by show 2 ≤ sizeLine; decide), fun u hu => ⟨u, rfl, same_new hu, upd_same⟩⟩⟩, ?_⟩
          rintro v G3 ⟨u, rfl, s3, hu⟩
          exact ne_pair (s3 _ _ h2) hu (TD.dp (Tb.pg.at_.keep (KeepU.of (s2.trans s3))).td) (pair_shaped (by decide +kernel) lay1 (by omega)) ⟨_, rfl, iteF ⟨rfl, Tb.same (s2.trans s3)⟩⟩
        · exact absurd hh (by unfold handedD; rw [if_neg (by decide), if_neg (by decide), if_neg (by decide)]; decide)
        · have er : rb = true := hrb.mpr rp
          subst er
          refine ⟨fun v G => v = .bl true ∧ G = G2, ⟨_, rfl, _, rfl, iteT ⟨rfl, rfl⟩⟩, ?_⟩
          rintro v G3 ⟨rfl, rfl⟩
          exact ⟨.bool true, .bool true, .bl _, .bl _, rfl, rfl, _, rfl, iteF ⟨rfl, Tb.same s2⟩⟩
      clear Tb
      rintro σ Gc ⟨rfl, Tc⟩
      -- something odd
      refine ⟨fun σ G => ∃ (vo : V) (d : PyData), σ = sg a b ta rx cp cu ck co v8 v9 (some vp) (some (.bl rb)) (some vo) v13 v14 v15 v16 v17 v18 v19 ∧ Tn K CC CP G ta rx cp cu ck co b l r (1 + 100 * i + 66) vp s low rs ∧ Dp K G vo d ∧ fromD d 1 = false ∧ SeqAt.shaped (.tuple [.str "handed", d]) = true, ?_, ?_⟩
      · refine ⟨_, rfl, (by show 1 ≤ sizeLine; decide), fun t5 n5 => ?_⟩
        have z5 := same_new (o := .tup [.int 1]) n5
        have e5 : upd Gc t5 (.tup [.int 1]) t5 = _ := upd_same
        generalize upd Gc t5 (.tup [.int 1]) = Gd at *
        refine ⟨(by show 1 ≤ sizeLine; decide), fun t6 n6 => ?_⟩
        have z6 := same_new (o := .lst [.int 1]) n6
        have e6 : upd Gd t6 (.lst [.int 1]) t6 = _ := upd_same
        generalize upd Gd t6 (.lst [.int 1]) = Ge at *
        refine ⟨(by show 7 ≤ sizeLine; decide), fun t7 n7 => ?_⟩
        have z7 := same_new (o := .lst [.int 0, .int (-1), .non, .str "1", .bl true, .ref t5, .ref t6]) n7
        have e7 : upd Ge t7 (.lst [.int 0, .int (-1), .non, .str "1", .bl true, .ref t5, .ref t6]) t7 = _ := upd_same
        generalize upd Ge t7 (.lst [.int 0, .int (-1), .non, .str "1", .bl true, .ref t5, .ref t6]) = Gf at *
        have Tf := Tc.same (z5.trans (z6.trans z7))
        refine ⟨_, rfl, b, l, _, 7, rfl, Tf.bag, by omega, by decide, by decide, fun x Gg x0 x1 sbg Bg => ?_⟩
        have Tg := Tf.draw sbg Bg
        have nb := bag_kind Tf.bag
        have h7 := sbg _ _ (fun y => nb.2.1 _ (y ▸ e7)) e7
        have h6 := sbg _ _ (fun y => nb.2.1 _ (y ▸ z7 _ _ e6)) (z7 _ _ e6)
        have h5 := sbg _ _ (fun y => nb.1 _ (y ▸ z7 _ _ (z6 _ _ e5))) (z7 _ _ (z6 _ _ e5))
        rcases (by omega : x = 0 ∨ x = 1 ∨ x = 2 ∨ x = 3 ∨ x = 4 ∨ x = 5 ∨ x = 6) with e | e | e | e | e | e | e
        · subst e; exact ⟨t7, _, 0, .int 0, rfl, rfl, SqL.of h7, atI_nat (j := 0) rfl, _, _, rfl, Tg, .int 0, rfl, by decide +kernel⟩
        · subst e; exact ⟨t7, _, 1, .int (-1), rfl, rfl, SqL.of h7, atI_nat (j := 1) rfl, _, _, rfl, Tg, .int (-1), rfl, by decide +kernel⟩
        · subst e; exact ⟨t7, _, 2, .non, rfl, rfl, SqL.of h7, atI_nat (j := 2) rfl, _, _, rfl, Tg, .non, rfl, by decide +kernel⟩
        · subst e; exact ⟨t7, _, 3, .str "1", rfl, rfl, SqL.of h7, atI_nat (j := 3) rfl, _, _, rfl, Tg, .str "1", rfl, by decide +kernel⟩
        · subst e; exact ⟨t7, _, 4, .bl true, rfl, rfl, SqL.of h7, atI_nat (j := 4) rfl, _, _, rfl, Tg, .bl true, rfl, by decide +kernel⟩
        · subst e; exact ⟨t7, _, 5, .ref t5, rfl, rfl, SqL.of h7, atI_nat (j := 5) rfl, _, _, rfl, Tg, .tup (SqT.of h5) (.cons (.int 1) .nil), rfl, by decide +kernel⟩
        · subst e; exact ⟨t7, _, 6, .ref t6, rfl, rfl, SqL.of h7, atI_nat (j := 6) rfl, _, _, rfl, Tg, .lst (SqL.of h6) (.cons (.int 1) .nil), rfl, by decide +kernel⟩
      clear Tc
      rintro σ Gd ⟨vo, d, rfl, Td, dvo, fo, sho⟩
      refine ⟨fun σ G => ∃ v12, σ = sg a b ta rx cp cu ck co v8 v9 (some vp) (some (.bl rb)) v12 v13 v14 v15 v16 v17 v18 v19 ∧ Tn K CC CP G ta rx cp cu ck co b l r (1 + 100 * i + 66) vp s low rs, ?_, ?_⟩
      · refine ⟨_, rfl, _, rfl, ite2 (fun er => ?_) (fun _ => ⟨_, rfl, Td⟩)⟩
        obtain ⟨z, fa, jv, CA, hf⟩ := Td.e.put
        have hh : handedD "put" rs d = false := fo
        refine ⟨_, rfl, _, rfl, _, rfl, cu, rx, fa, "put", z, jv, vp, vo, d, r, rfl, CA, Td.e.ru, R, dvo, .inr ⟨s, low, rs, Td.pg.at_, Td.pg.small, fun nr => absurd (hrb.mp er) nr, fun rp _ t G2 s2 h2 => ?_, fun rp y => by rw [hh] at y; cases y⟩⟩
        refine ⟨_, rfl, (by show 2 ≤ sizeLine; decide), fun u hu => ?_⟩
        have s3 := same_new (o := .tup [.str "handed", vo]) hu
        exact ne_pair (s3 _ _ h2) upd_same (Dp.same (s2.trans s3) dvo) sho ⟨_, rfl, iteF ⟨_, rfl, Td.same (s2.trans s3)⟩⟩
      clear dvo fo sho Td
      rintro σ Ge ⟨v12, rfl, Te⟩
      -- the slots with records
      have lr6 := Te.pg.len
      refine ⟨fun σ G => ∃ (D : Addr) (v13 : Option V), σ = sg a b ta rx cp cu ck co v8 v9 (some vp) (some (.bl rb)) v12 v13 (some (.ref D)) v15 v16 v17 v18 v19 ∧ Tn K CC CP G ta rx cp cu ck co b l r (1 + 100 * i + 66) vp s low rs ∧ G D = some (.lst ((hIx rs rs.length).map V.int)), ?_, ?_⟩
      · obtain ⟨p, tp, rfl, hp, xs, hx, rv⟩ := id Te.pg.at_
        refine ⟨_, rfl, p, _, 2, .ref tp, rfl, rfl, SqT.of hp, atI_nat (j := 2) rfl, tp, xs, rfl, .inr (SqT.of hx), ?_⟩
        rw [rv.len]
        refine ⟨(rs.length : Int), rfl, by omega, by omega, fun D hD => lc_range (lo := 0) (n := rs.length) (fun j G => Same Ge G ∧ G D = some (.lst ((hIx rs j).map V.int))) ⟨same_new hD, upd_same⟩ ?_ ?_⟩
        · rintro j G hj ⟨sG, hG⟩
          rw [show ((0 : Int) + (j : Int)) = (j : Int) from by omega]
          have hjx : j < xs.length := by rw [rv.len]; exact hj
          have ej := List.getElem?_eq_getElem hjx
          obtain ⟨q, hq, vq⟩ := rv.get ej
          have lh := hIx_len rs j
          refine ⟨rfl, _, rfl, p, _, 2, .ref tp, rfl, rfl, SqT.of (sG _ _ hp), atI_nat (j := 2) rfl, _, rfl, tp, xs, _, _, rfl, rfl, SqT.of (sG _ _ hx), atI_nat ej, rfl, _, rfl, ?_⟩
          have eg : rs.getD j none = q := by rw [List.getD_eq_getElem?_getD, hq]; rfl
          rw [hIx_succ, eg]
          generalize xs[j] = y at *
          cases vq with
          | non =>
            refine iteNS rfl ⟨sG, ?_⟩
            rw [if_neg (by decide), List.append_nil]; exact hG
          | @rc t a' l' ht =>
            refine iteNN (fun z => nomatch z) ⟨_, rfl, _, hG, (by rw [List.length_map, sizeLine_eq]; omega), fun c o e => ?_, ?_⟩
            · rw [upd_ne (fun y => by rw [y, hD] at e; cases e)]; exact sG _ _ e
            · rw [upd_same, if_pos (show (some (a', l') : Option Rec).isSome = true from rfl), List.map_append]; rfl
        · rintro G ⟨sG, hG⟩
          exact ⟨D, _, rfl, Te.same sG, hG⟩
      clear Te
      rintro σ Gf ⟨D, v13', rfl, Tf, hD⟩
      -- a slot with a record, or the one behind all
      refine ⟨fun σ G => ∃ j : Nat, σ = sg a b ta rx cp cu ck co v8 v9 (some vp) (some (.bl rb)) v12 v13' (some (.ref D)) (some (.int (j : Int))) v16 v17 v18 v19 ∧ Tn K CC CP G ta rx cp cu ck co b l r (1 + 100 * i + 66) vp s low rs ∧ G D = some (.lst ((hIx rs rs.length).map V.int)) ∧ heldD rs (.int (j : Int)) = !(hIx rs rs.length).isEmpty, ?_, ?_⟩
      · refine ⟨fun v G => ∃ j : Nat, v = .int (j : Int) ∧ Same Gf G ∧ heldD rs (.int (j : Int)) = !(hIx rs rs.length).isEmpty, ?_, fun v G ⟨j, e, sG, h⟩ => by subst e; exact ⟨j, rfl, Tf.same sG, sG _ _ hD, h⟩⟩
        refine ⟨_, rfl, Nat.zero_le _, fun e he => ?_⟩
        have z1 := same_new (o := .lst []) he
        refine ne_ints (z1 _ _ hD) upd_same ⟨_, rfl, ?_⟩
        cases hh : hIx rs rs.length with
        | nil =>
          obtain ⟨p, tp, rfl, hp, xs, hx, rv⟩ := id Tf.pg.at_
          refine iteF ⟨_, rfl, p, _, 2, .ref tp, rfl, rfl, SqT.of (z1 _ _ hp), atI_nat (j := 2) rfl, tp, xs, rfl, .inr (SqT.of (z1 _ _ hx)), rs.length, by rw [rv.len], z1, ?_⟩
          rw [heldD_nat, decide_eq_false (Nat.lt_irrefl _)]; rfl
        | cons y ys =>
          obtain ⟨m, em, hm, hs⟩ := hIx_mem (show y ∈ hIx rs rs.length by rw [hh]; exact List.mem_cons_self ..)
          subst em
          rw [hh] at hD
          refine iteT ⟨_, rfl, D, _, 0, .int (m : Int), rfl, rfl, SqL.of (z1 _ _ hD), atI_nat (j := 0) rfl, m, rfl, z1, ?_⟩
          rw [heldD_nat, decide_eq_true hm, hs]; rfl
      clear Tf hD
      rintro σ Gg ⟨j, rfl, Tg, hD, hj⟩
      -- what is handed wrongly
      refine ⟨fun σ G => ∃ L : Addr, σ = sg a b ta rx cp cu ck co v8 v9 (some vp) (some (.bl rb)) v12 v13' (some (.ref D)) (some (.int (j : Int))) (some (.ref L)) v17 v18 v19 ∧ Same Gg G ∧ Things K CC rx rs G L 6, ?_, ?_⟩
      · have cS := Tg.e.strike
        have cO := Tg.e.set
        have cP := Tg.e.pack
        refine ⟨_, rfl, _, rfl, (by show 1 ≤ sizeLine; decide), fun a1 na1 => ?_⟩
        have y1 := same_new (o := .tup [.int (j : Int)]) na1
        have f1 : upd Gg a1 (.tup [.int (j : Int)]) a1 = _ := upd_same
        generalize upd Gg a1 (.tup [.int (j : Int)]) = W1 at *
        refine ⟨(by show 2 ≤ sizeLine; decide), fun u1 nu1 => ?_⟩
        have y2 := same_new (o := .tup [.ref ck, .ref a1]) nu1
        have T1 : ThingAt K CC rx rs (upd W1 u1 (.tup [.ref ck, .ref a1])) u1 := ⟨ck, "strike", .ref a1, .tuple [.int (j : Int)], upd_same, (cS.same y1).same y2, .tup (SqT.of (y2 _ _ f1)) (.cons (.int _) .nil), rfl, by kernel_rfl⟩
        generalize upd W1 u1 (.tup [.ref ck, .ref a1]) = W2 at *
        refine ⟨_, rfl, _, rfl, (by show 2 ≤ sizeLine; decide), fun a2 na2 => ?_⟩
        have y3 := same_new (o := .tup [.int (j : Int), .int 0]) na2
        have f3 : upd W2 a2 (.tup [.int (j : Int), .int 0]) a2 = _ := upd_same
        generalize upd W2 a2 (.tup [.int (j : Int), .int 0]) = W3 at *
        refine ⟨(by show 2 ≤ sizeLine; decide), fun u2 nu2 => ?_⟩
        have y4 := same_new (o := .tup [.ref co, .ref a2]) nu2
        have T2 : ThingAt K CC rx rs (upd W3 u2 (.tup [.ref co, .ref a2])) u2 := ⟨co, "set", .ref a2, .tuple [.int (j : Int), .int 0], upd_same, (((cO.same y1).same y2).same y3).same y4, .tup (SqT.of (y4 _ _ f3)) (.cons (.int _) (.cons (.int _) .nil)), by show (heldD rs (.int (j : Int)) && false) = false; rw [Bool.and_false], by kernel_rfl⟩
        generalize upd W3 u2 (.tup [.ref co, .ref a2]) = W4 at *
        refine ⟨_, rfl, _, rfl, (by show 2 ≤ sizeLine; decide), fun u3 nu3 => ?_⟩
        have y5 := same_new (o := .tup [.ref co, .int (j : Int)]) nu3
        have T3 : ThingAt K CC rx rs (upd W4 u3 (.tup [.ref co, .int (j : Int)])) u3 := ⟨co, "set", .int (j : Int), .int (j : Int), upd_same, ((((cO.same y1).same y2).same y3).same y4).same y5, .int _, rfl, by kernel_rfl⟩
        generalize upd W4 u3 (.tup [.ref co, .int (j : Int)]) = W5 at *
        refine ⟨_, rfl, (by show 2 ≤ sizeLine; decide), fun u4 nu4 => ?_⟩
        have y6 := same_new (o := .tup [.ref cp, .int 1]) nu4
        have T4 : ThingAt K CC rx rs (upd W5 u4 (.tup [.ref cp, .int 1])) u4 := ⟨cp, "pack", .int 1, .int 1, upd_same, (((((cP.same y1).same y2).same y3).same y4).same y5).same y6, .int _, rfl, by kernel_rfl⟩
        generalize upd W5 u4 (.tup [.ref cp, .int 1]) = W6 at *
        refine ⟨_, rfl, (by show 2 ≤ sizeLine; decide), fun u5 nu5 => ?_⟩
        have y7 := same_new (o := .tup [.ref ck, .bl true]) nu5
        have T5 : ThingAt K CC rx rs (upd W6 u5 (.tup [.ref ck, .bl true])) u5 := ⟨ck, "strike", .bl true, .bool true, upd_same, ((((((cS.same y1).same y2).same y3).same y4).same y5).same y6).same y7, .bl _, rfl, by kernel_rfl⟩
        generalize upd W6 u5 (.tup [.ref ck, .bl true]) = W7 at *
        refine ⟨_, rfl, _, rfl, (by show 2 ≤ sizeLine; decide), fun u6 nu6 => ?_⟩
        have y8 := same_new (o := .tup [.ref ck, .int (-1)]) nu6
        have T6 : ThingAt K CC rx rs (upd W7 u6 (.tup [.ref ck, .int (-1)])) u6 := ⟨ck, "strike", .int (-1), .int (-1), upd_same, (((((((cS.same y1).same y2).same y3).same y4).same y5).same y6).same y7).same y8, .int _, rfl, by kernel_rfl⟩
        generalize upd W7 u6 (.tup [.ref ck, .int (-1)]) = W8 at *
        refine ⟨(by show 6 ≤ sizeLine; decide), fun L nL => ?_⟩
        have y9 := same_new (o := .lst [.ref u1, .ref u2, .ref u3, .ref u4, .ref u5, .ref u6]) nL
        refine ⟨L, rfl, y1.trans (y2.trans (y3.trans (y4.trans (y5.trans (y6.trans (y7.trans (y8.trans y9))))))), [u1, u2, u3, u4, u5, u6], upd_same, fun t ht => ?_, Nat.le_refl 6⟩
        rcases List.mem_cons.mp ht with e | ht
        · subst e; exact (((((((T1.same y3).same y4).same y5).same y6).same y7).same y8).same y9)
        rcases List.mem_cons.mp ht with e | ht
        · subst e; exact (((((T2.same y5).same y6).same y7).same y8).same y9)
        rcases List.mem_cons.mp ht with e | ht
        · subst e; exact ((((T3.same y6).same y7).same y8).same y9)
        rcases List.mem_cons.mp ht with e | ht
        · subst e; exact (((T4.same y7).same y8).same y9)
        rcases List.mem_cons.mp ht with e | ht
        · subst e; exact ((T5.same y8).same y9)
        · rw [List.mem_singleton.mp ht]; exact T6.same y9
      rintro σ Gh ⟨L, rfl, sgh, ⟨as, hL, thL, lL⟩⟩
      have Th := Tg.same sgh
      have hDh := sgh _ _ hD
      clear Tg hD
      refine ⟨fun σ G => ∃ L : Addr, σ = sg a b ta rx cp cu ck co v8 v9 (some vp) (some (.bl rb)) v12 v13' (some (.ref D)) (some (.int (j : Int))) (some (.ref L)) v17 v18 v19 ∧ Same Gh G ∧ Things K CC rx rs G L 10, ?_, ?_⟩
      · have cS := Th.e.strike
        have cO := Th.e.set
        obtain ⟨p, tp, rfl, hp, xs, hx, rv⟩ := id Th.pg.at_
        refine ⟨_, rfl, _, rfl, _, rfl, p, _, 2, .ref tp, rfl, rfl, SqT.of hp, atI_nat (j := 2) rfl, tp, xs, rfl, .inr (SqT.of hx), ?_⟩
        rw [rv.len]
        refine ⟨(by show 2 ≤ sizeLine; decide), fun u1 nu1 => ?_⟩
        have y1 := same_new (o := .tup [.ref ck, .int (rs.length : Int)]) nu1
        have T1 : ThingAt K CC rx rs (upd Gh u1 (.tup [.ref ck, .int (rs.length : Int)])) u1 := ⟨ck, "strike", .int (rs.length : Int), .int (rs.length : Int), upd_same, cS.same y1, .int _, by show heldD rs (.int (rs.length : Int)) = false; rw [heldD_nat, decide_eq_false (Nat.lt_irrefl _)]; rfl, by kernel_rfl⟩
        generalize upd Gh u1 (.tup [.ref ck, .int (rs.length : Int)]) = W1 at *
        refine ⟨_, rfl, _, rfl, (by show 2 ≤ sizeLine; decide), fun a2 na2 => ?_⟩
        have y2 := same_new (o := .lst [.int (j : Int), .int 1]) na2
        have f2 : upd W1 a2 (.lst [.int (j : Int), .int 1]) a2 = _ := upd_same
        generalize upd W1 a2 (.lst [.int (j : Int), .int 1]) = W2 at *
        refine ⟨(by show 2 ≤ sizeLine; decide), fun u2 nu2 => ?_⟩
        have y3 := same_new (o := .tup [.ref co, .ref a2]) nu2
        have T2 : ThingAt K CC rx rs (upd W2 u2 (.tup [.ref co, .ref a2])) u2 := ⟨co, "set", .ref a2, .list [.int (j : Int), .int 1], upd_same, ((cO.same y1).same y2).same y3, .lst (SqL.of (y3 _ _ f2)) (.cons (.int _) (.cons (.int _) .nil)), rfl, by kernel_rfl⟩
        generalize upd W2 u2 (.tup [.ref co, .ref a2]) = W3 at *
        refine ⟨_, rfl, _, rfl, (by show 2 ≤ sizeLine; decide), fun a3 na3 => ?_⟩
        have y4 := same_new (o := .tup [.int (-1), .int 1]) na3
        have f4 : upd W3 a3 (.tup [.int (-1), .int 1]) a3 = _ := upd_same
        generalize upd W3 a3 (.tup [.int (-1), .int 1]) = W4 at *
        refine ⟨(by show 2 ≤ sizeLine; decide), fun u3 nu3 => ?_⟩
        have y5 := same_new (o := .tup [.ref co, .ref a3]) nu3
        have T3 : ThingAt K CC rx rs (upd W4 u3 (.tup [.ref co, .ref a3])) u3 := ⟨co, "set", .ref a3, .tuple [.int (-1), .int 1], upd_same, ((((cO.same y1).same y2).same y3).same y4).same y5, .tup (SqT.of (y5 _ _ f4)) (.cons (.int _) (.cons (.int _) .nil)), rfl, by kernel_rfl⟩
        generalize upd W4 u3 (.tup [.ref co, .ref a3]) = W5 at *
        refine ⟨_, rfl, _, rfl, (by show 2 ≤ sizeLine; decide), fun a4 na4 => ?_⟩
        have y6 := same_new (o := .tup [.int (j : Int), .bl true]) na4
        have f6 : upd W5 a4 (.tup [.int (j : Int), .bl true]) a4 = _ := upd_same
        generalize upd W5 a4 (.tup [.int (j : Int), .bl true]) = W6 at *
        refine ⟨(by show 2 ≤ sizeLine; decide), fun u4 nu4 => ?_⟩
        have y7 := same_new (o := .tup [.ref co, .ref a4]) nu4
        have T4 : ThingAt K CC rx rs (upd W6 u4 (.tup [.ref co, .ref a4])) u4 := ⟨co, "set", .ref a4, .tuple [.int (j : Int), .bool true], upd_same, ((((((cO.same y1).same y2).same y3).same y4).same y5).same y6).same y7, .tup (SqT.of (y7 _ _ f6)) (.cons (.int _) (.cons (.bl _) .nil)), rfl, by kernel_rfl⟩
        generalize upd W6 u4 (.tup [.ref co, .ref a4]) = W7 at *
        refine ⟨(by show 4 ≤ sizeLine; decide), fun M nM => ?_⟩
        have y8 := same_new (o := .lst [.ref u1, .ref u2, .ref u3, .ref u4]) nM
        have e8 : upd W7 M (.lst [.ref u1, .ref u2, .ref u3, .ref u4]) M = some (.lst (([u1, u2, u3, u4] : List Addr).map V.ref)) := upd_same
        generalize upd W7 M (.lst [.ref u1, .ref u2, .ref u3, .ref u4]) = W8 at *
        have yA := y1.trans (y2.trans (y3.trans (y4.trans (y5.trans (y6.trans (y7.trans y8))))))
        refine ⟨L, M, _, _, rfl, rfl, yA _ _ hL, e8, (by rw [List.length_map, List.length_map, sizeLine_eq]; show _ + 4 ≤ _; omega), fun q nq => ?_⟩
        have y9 := same_new (o := .lst (as.map V.ref ++ ([u1, u2, u3, u4] : List Addr).map V.ref)) nq
        refine ⟨q, rfl, yA.trans y9, as ++ [u1, u2, u3, u4], by rw [upd_same, List.map_append], fun t ht => ?_, by rw [List.length_append]; show _ + 4 ≤ 10; omega⟩
        rcases List.mem_append.mp ht with ht | ht
        · exact (thL t ht).same (yA.trans y9)
        rcases List.mem_cons.mp ht with e | ht
        · subst e; exact ((((((((T1.same y2).same y3).same y4).same y5).same y6).same y7).same y8).same y9)
        rcases List.mem_cons.mp ht with e | ht
        · subst e; exact ((((((T2.same y4).same y5).same y6).same y7).same y8).same y9)
        rcases List.mem_cons.mp ht with e | ht
        · subst e; exact ((((T3.same y6).same y7).same y8).same y9)
        · rw [List.mem_singleton.mp ht]; exact (T4.same y8).same y9
      clear hL thL lL
      rintro σ Gi ⟨L2, rfl, sgi, ⟨as2, hL, thL, lL⟩⟩
      have Ti := Th.same sgi
      have hDi := sgi _ _ hDh
      clear Th hDh
      refine ⟨fun σ G => ∃ (L : Addr) (v13 : Option V), σ = sg a b ta rx cp cu ck co v8 v9 (some vp) (some (.bl rb)) v12 v13 (some (.ref D)) (some (.int (j : Int))) (some (.ref L)) v17 v18 v19 ∧ Same Gi G ∧ Things K CC rx rs G L 16, ?_, ?_⟩
      · have cS := Ti.e.strike
        obtain ⟨p, tp, rfl, hp, xs, hx, rv⟩ := id Ti.pg.at_
        refine ⟨_, rfl, _, rfl, p, _, 2, .ref tp, rfl, rfl, SqT.of hp, atI_nat (j := 2) rfl, tp, xs, rfl, .inr (SqT.of hx), ?_⟩
        rw [rv.len]
        refine ⟨(rs.length : Int), rfl, by omega, by omega, fun D2 hD2 => lc_range (lo := 0) (n := rs.length) (fun n G => Same Gi G ∧ ∃ bs : List Addr, G D2 = some (.lst (bs.map V.ref)) ∧ (∀ t ∈ bs, ThingI K CC rx rs G t) ∧ bs.length ≤ n) ⟨same_new hD2, [], upd_same, (fun t h => absurd h List.not_mem_nil), Nat.le_refl _⟩ ?_ ?_⟩
        · rintro n G hn ⟨sG, bs, hG, thb, lb⟩
          rw [show ((0 : Int) + (n : Int)) = (n : Int) from by omega]
          have hnx : n < xs.length := by rw [rv.len]; exact hn
          have ej := List.getElem?_eq_getElem hnx
          obtain ⟨q, hq, vq⟩ := rv.get ej
          refine ⟨rfl, _, rfl, p, _, 2, .ref tp, rfl, rfl, SqT.of (sG _ _ hp), atI_nat (j := 2) rfl, _, rfl, tp, xs, _, _, rfl, rfl, SqT.of (sG _ _ hx), atI_nat ej, rfl, _, rfl, ?_⟩
          have eg : rs.getD n none = q := by rw [List.getD_eq_getElem?_getD, hq]; rfl
          generalize xs[n] = y at *
          cases vq with
          | non =>
            refine iteY rfl ⟨_, rfl, _, rfl, (by show 2 ≤ sizeLine; decide), fun t ht => ?_⟩
            have y1 := same_new (o := .tup [.ref ck, .int (n : Int)]) ht
            have T1 : ThingI K CC rx rs (upd G t (.tup [.ref ck, .int (n : Int)])) t := ⟨ck, "strike", (n : Int), upd_same, (cS.same sG).same y1, by show heldD rs (.int (n : Int)) = false; rw [heldD_nat, eg, Bool.and_comm]; rfl⟩
            have hG1 := y1 _ _ hG
            generalize upd G t (.tup [.ref ck, .int (n : Int)]) = W1 at *
            refine ⟨_, hG1, (by rw [List.length_map, sizeLine_eq]; omega), fun c o e => ?_, bs ++ [t], by rw [upd_same, List.map_append]; rfl, fun u hu => ?_, by rw [List.length_append]; show _ + 1 ≤ _; omega⟩
            · rw [upd_ne (fun y => by rw [y, hD2] at e; cases e)]; exact y1 _ _ (sG _ _ e)
            · have ks : ∀ u, ThingI K CC rx rs W1 u → ThingI K CC rx rs (upd W1 D2 (.lst (bs.map V.ref ++ [.ref t]))) u := fun u h => h.ups hG1
              rcases List.mem_append.mp hu with h | h
              · exact ks u ((thb u h).same y1)
              · rw [List.mem_singleton.mp h]; exact ks t T1
          | @rc t a' l' ht => exact iteN (fun z => nomatch z) ⟨sG, bs, hG, thb, by omega⟩
        · rintro G ⟨sG, bs, hG, thb, lb⟩
          refine ⟨L2, D2, _, _, rfl, rfl, sG _ _ hL, hG, (by rw [List.length_map, List.length_map, sizeLine_eq]; omega), fun q nq => ?_⟩
          have y9 := same_new (o := .lst (as2.map V.ref ++ bs.map V.ref)) nq
          refine ⟨q, _, rfl, sG.trans y9, as2 ++ bs, by rw [upd_same, List.map_append], fun t ht => ?_, by rw [List.length_append]; omega⟩
          rcases List.mem_append.mp ht with ht | ht
          · exact (thL t ht).same (sG.trans y9)
          · exact (thb t ht).at_.same y9
      clear hL thL lL
      rintro σ Gj ⟨L3, v13'', rfl, sgj, ⟨as3, hL, thL, lL⟩⟩
      have Tj := Ti.same sgj
      have hDj := sgj _ _ hDi
      clear Ti hDi
      -- each of them is refused
      refine ⟨fun σ G => ∃ v17 v18, σ = sg a b ta rx cp cu ck co v8 v9 (some vp) (some (.bl rb)) v12 v13'' (some (.ref D)) (some (.int (j : Int))) (some (.ref L3)) v17 v18 v19 ∧ Same Gj G, ?_, ?_⟩
      · refine ⟨_, rfl, L3, rfl, ⟨_, SqL.of hL⟩, for_list (K := K) (a := L3) (xs := as3.map V.ref) (fun n σ G => ∃ v17 v18, σ = sg a b ta rx cp cu ck co v8 v9 (some vp) (some (.bl rb)) v12 v13'' (some (.ref D)) (some (.int (j : Int))) (some (.ref L3)) v17 v18 v19 ∧ Same Gj G) ⟨_, _, rfl, Same.refl _⟩ (fun n σ G _ ⟨_, _, _, sG⟩ => SqL.of (sG _ _ hL)) ?_ ?_⟩
        · rintro n y σ G hn ⟨v17, v18, rfl, sG⟩
          rw [List.getElem?_map] at hn
          obtain ⟨t, ht, rfl⟩ := Option.map_eq_some_iff.mp hn
          obtain ⟨c, kd, v, d, h1, h2, h3, h4, h5⟩ := (thL t (List.mem_of_getElem? ht)).same sG
          have TG := Tj.same sG
          refine ⟨t, _, rfl, SqT.of h1, rfl, _, _, rfl, _, _, rfl, rfl, ?_⟩
          refine ⟨_, rfl, _, rfl, ite2 (fun er => ?_) (fun _ => ⟨_, _, rfl, sG⟩)⟩
          obtain ⟨z, fa, jv, CA, hf⟩ := h2
          refine ⟨_, rfl, _, rfl, _, rfl, c, rx, fa, kd, z, jv, vp, v, d, r, rfl, CA, TG.e.ru, R, h3, .inr ⟨s, low, rs, TG.pg.at_, TG.pg.small, fun nr => absurd (hrb.mp er) nr, fun rp _ t2 G2 s2 h2' => ?_, fun rp y => by rw [h4] at y; cases y⟩⟩
          refine ⟨_, rfl, (by show 2 ≤ sizeLine; decide), fun u hu => ?_⟩
          have s3 := same_new (o := .tup [.str "handed", v]) hu
          exact ne_pair (s3 _ _ h2') upd_same (Dp.same (s2.trans s3) h3) h5 ⟨_, rfl, iteF ⟨_, _, rfl, sG.trans (s2.trans s3)⟩⟩
        · rintro σ G ⟨v17, v18, rfl, sG⟩
          exact ⟨_, _, rfl, sG⟩
      clear hL thL lL
      rintro σ Gk ⟨v17', v18', rfl, sgk⟩
      have Tk := Tj.same sgk
      have hDk := sgk _ _ hDj
      clear Tj hDj
      -- what is due for the slot
      refine ⟨fun σ G => ∃ vd, σ = sg a b ta rx cp cu ck co v8 v9 (some vp) (some (.bl rb)) v12 v13'' (some (.ref D)) (some (.int (j : Int))) (some (.ref L3)) v17' v18' (some vd) ∧ Same Gk G ∧ ((heldD rs (.int (j : Int)) = false ∧ ∃ u, vd = .ref u ∧ G u = some (.tup [.str "handed", .int (j : Int)])) ∨ (heldD rs (.int (j : Int)) = true ∧ vd = .bl true)), ?_, ?_⟩
      · refine ⟨fun v G => Same Gk G ∧ ((heldD rs (.int (j : Int)) = false ∧ ∃ u, v = .ref u ∧ G u = some (.tup [.str "handed", .int (j : Int)])) ∨ (heldD rs (.int (j : Int)) = true ∧ v = .bl true)), ?_, fun v G h => ⟨v, rfl, h⟩⟩
        refine ⟨_, rfl, Nat.zero_le _, fun e he => ?_⟩
        have z1 := same_new (o := .lst []) he
        refine ne_ints (z1 _ _ hDk) upd_same ⟨_, rfl, ?_⟩
        cases hh : (hIx rs rs.length).isEmpty with
        | true =>
          rw [hh] at hj
          refine iteF ⟨_, rfl, (by show 2 ≤ sizeLine; decide), fun u hu => ⟨z1.trans (same_new hu), .inl ⟨hj, u, rfl, upd_same⟩⟩⟩
        | false =>
          rw [hh] at hj
          exact iteT ⟨z1, .inr ⟨hj, rfl⟩⟩
      rintro σ Gl ⟨vd, rfl, sgl, hd⟩
      have Tl := Tk.same sgl
      clear Tk hDk
      refine ⟨_, rfl, _, rfl, ite2 (fun er => ?_) (fun _ => ⟨_, _, _, _, _, _, _, _, _, _, _, _, rfl, Tl.e, Tl.bag.more (by omega)⟩)⟩
      obtain ⟨z, fa, jv, CA, hf⟩ := Tl.e.strike
      have fin : ∀ G, Same Gl G → LawE K CC CP G ta rx cp cu ck co r ∧ BagL G b l (1 + 100 * (i + 1)) := fun G sG => ⟨(Tl.same sG).e, (Tl.same sG).bag.more (by omega)⟩
      refine ⟨_, rfl, _, rfl, _, rfl, ck, rx, fa, "strike", z, jv, vp, .int (j : Int), .int (j : Int), r, rfl, CA, Tl.e.ru, R, .int _, .inr ⟨s, low, rs, Tl.pg.at_, Tl.pg.small, fun nr => absurd (hrb.mp er) nr, fun rp hh t G2 s2 h2 => ?_, fun rp hh => ⟨.inr rfl, hf (.inr rfl), fun G2 s2 => ?_⟩⟩⟩
      · have hh : heldD rs (.int (j : Int)) = false := hh
        rcases hd with ⟨_, u, rfl, hu⟩ | ⟨h, _⟩
        · exact ⟨_, rfl, ne_pair h2 (s2 _ _ hu) (.int _) (by kernel_rfl) ⟨_, rfl, iteF ⟨_, _, _, _, _, _, _, _, _, _, _, _, rfl, fin _ s2⟩⟩⟩
        · rw [h] at hh; cases hh
      · have hh : heldD rs (.int (j : Int)) = true := hh
        rcases hd with ⟨h, _⟩ | ⟨_, rfl⟩
        · rw [h] at hh; cases hh
        · exact ⟨_, rfl, .bool true, .bool true, .bl _, .bl _, rfl, rfl, _, rfl, iteF ⟨_, _, _, _, _, _, _, _, _, _, _, _, rfl, fin _ s2⟩⟩
    · rintro σ G7 ⟨v8, v9, v10, v11, v12, v13, v14, v15, v16, v17, v18, v19, rfl, L, B⟩
      -- what is no page
      refine ⟨(by show 2 ≤ sizeLine; decide), fun t1 n1 => ?_⟩
      have z1 := same_new (o := .tup [.int 9, .int 9]) n1
      have e1 : upd G7 t1 (.tup [.int 9, .int 9]) t1 = _ := upd_same
      generalize upd G7 t1 (.tup [.int 9, .int 9]) = W1 at *
      refine ⟨Nat.zero_le _, fun a2 m2 => ?_⟩
      have y2 := same_new (o := .tup []) m2
      have f2 : upd W1 a2 (.tup []) a2 = _ := upd_same
      generalize upd W1 a2 (.tup []) = X2 at *
      refine ⟨(by show 3 ≤ sizeLine; decide), fun t2 n2 => ?_⟩
      have z2 := same_new (o := .lst [.int 9, .int 9, .ref a2]) n2
      have e2 : upd X2 t2 (.lst [.int 9, .int 9, .ref a2]) t2 = _ := upd_same
      generalize upd X2 t2 (.lst [.int 9, .int 9, .ref a2]) = W2 at *
      refine ⟨Nat.zero_le _, fun a3 m3 => ?_⟩
      have y3 := same_new (o := .lst []) m3
      have f3 : upd W2 a3 (.lst []) a3 = _ := upd_same
      generalize upd W2 a3 (.lst []) = X3 at *
      refine ⟨(by show 3 ≤ sizeLine; decide), fun t3 n3 => ?_⟩
      have z3 := same_new (o := .tup [.int 9, .int 9, .ref a3]) n3
      have e3 : upd X3 t3 (.tup [.int 9, .int 9, .ref a3]) t3 = _ := upd_same
      generalize upd X3 t3 (.tup [.int 9, .int 9, .ref a3]) = W3 at *
      refine ⟨Nat.zero_le _, fun a4 m4 => ?_⟩
      have y4 := same_new (o := .tup []) m4
      have f4 : upd W3 a4 (.tup []) a4 = _ := upd_same
      generalize upd W3 a4 (.tup []) = X4 at *
      refine ⟨(by show 3 ≤ sizeLine; decide), fun t4 n4 => ?_⟩
      have z4 := same_new (o := .tup [.int 9, .str "9", .ref a4]) n4
      have e4 : upd X4 t4 (.tup [.int 9, .str "9", .ref a4]) t4 = _ := upd_same
      generalize upd X4 t4 (.tup [.int 9, .str "9", .ref a4]) = W4 at *
      refine ⟨Nat.zero_le _, fun a5 m5 => ?_⟩
      have y5 := same_new (o := .tup []) m5
      have f5 : upd W4 a5 (.tup []) a5 = _ := upd_same
      generalize upd W4 a5 (.tup []) = X5 at *
      refine ⟨(by show 3 ≤ sizeLine; decide), fun t5 n5 => ?_⟩
      have z5 := same_new (o := .tup [.bl true, .int 9, .ref a5]) n5
      have e5 : upd X5 t5 (.tup [.bl true, .int 9, .ref a5]) t5 = _ := upd_same
      generalize upd X5 t5 (.tup [.bl true, .int 9, .ref a5]) = W5 at *
      refine ⟨(by show 1 ≤ sizeLine; decide), fun a6 m6 => ?_⟩
      have y6 := same_new (o := .tup [.int 1]) m6
      have f6 : upd W5 a6 (.tup [.int 1]) a6 = _ := upd_same
      generalize upd W5 a6 (.tup [.int 1]) = X6 at *
      refine ⟨(by show 1 ≤ sizeLine; decide), fun a7 m7 => ?_⟩
      have y7 := same_new (o := .tup [.ref a6]) m7
      have f7 : upd X6 a7 (.tup [.ref a6]) a7 = _ := upd_same
      generalize upd X6 a7 (.tup [.ref a6]) = X7 at *
      refine ⟨(by show 3 ≤ sizeLine; decide), fun t6 n6 => ?_⟩
      have z6 := same_new (o := .tup [.int 9, .int 9, .ref a7]) n6
      have e6 : upd X7 t6 (.tup [.int 9, .int 9, .ref a7]) t6 = _ := upd_same
      generalize upd X7 t6 (.tup [.int 9, .int 9, .ref a7]) = W6 at *
      refine ⟨(by show 7 ≤ sizeLine; decide), fun S nS => ?_⟩
      have zS := same_new (o := .lst [.non, .ref t1, .ref t2, .ref t3, .ref t4, .ref t5, .ref t6]) nS
      have eS : upd W6 S (.lst [.non, .ref t1, .ref t2, .ref t3, .ref t4, .ref t5, .ref t6]) S = some (.lst [.non, .ref t1, .ref t2, .ref t3, .ref t4, .ref t5, .ref t6]) := upd_same
      have fresh : ∀ {q : Addr} {o : HO}, W6 q = some o → q ≠ S := fun h y => by rw [y, nS] at h; cases h
      generalize upd W6 S (.lst [.non, .ref t1, .ref t2, .ref t3, .ref t4, .ref t5, .ref t6]) = WS at *
      refine ⟨_, rfl, .inl ⟨rfl, _, SqL.of eS⟩, S, _, _, rfl, rfl, eS, (by show 7 < sizeLine; rw [sizeLine_eq]; decide), ?_⟩
      have eL : ([.non, .ref t1, .ref t2, .ref t3, .ref t4, .ref t5, .ref t6] : List V) ++ [.str "page"] = [.non, .ref t1, .ref t2, .ref t3, .ref t4, .ref t5, .ref t6, .str "page"] := rfl
      rw [eL]
      have zE : ∀ q o, W6 q = some o → upd WS S (.lst [.non, .ref t1, .ref t2, .ref t3, .ref t4, .ref t5, .ref t6, .str "page"]) q = some o := fun q o h => by rw [upd_ne (fresh h)]; exact zS _ _ h
      have eE : upd WS S (.lst [.non, .ref t1, .ref t2, .ref t3, .ref t4, .ref t5, .ref t6, .str "page"]) S = _ := upd_same
      generalize upd WS S (.lst [.non, .ref t1, .ref t2, .ref t3, .ref t4, .ref t5, .ref t6, .str "page"]) = WE' at *
      have c6 : Same W6 WE' := zE
      have c5 : Same W5 WE' := y6.trans (y7.trans (z6.trans c6))
      have c4 : Same W4 WE' := y5.trans (z5.trans c5)
      have c3 : Same W3 WE' := y4.trans (z4.trans c4)
      have c2 : Same W2 WE' := y3.trans (z3.trans c3)
      have c1 : Same W1 WE' := y2.trans (z2.trans c2)
      have c0 : Same G7 WE' := z1.trans c1
      have LE := L.but B (same_but c0)
      have BE := B.same c0
      have g1 := c1 _ _ e1
      have g2 := c2 _ _ e2
      have h2 := c2 _ _ (z2 _ _ f2)
      have g3 := c3 _ _ e3
      have h3 := c3 _ _ (z3 _ _ f3)
      have g4 := c4 _ _ e4
      have h4 := c4 _ _ (z4 _ _ f4)
      have g5 := c5 _ _ e5
      have h5 := c5 _ _ (z5 _ _ f5)
      have g6 := c6 _ _ e6
      have h7 := c6 _ _ (z6 _ _ f7)
      have h6 := c6 _ _ (z6 _ _ (y7 _ _ f6))
      clear e1 e2 e3 e4 e5 e6 f2 f3 f4 f5 f6 f7 z1 z2 z3 z4 z5 z6 y2 y3 y4 y5 y6 y7 c0 c1 c2 c3 c4 c5 c6 zS eS zE fresh L B
      refine ⟨fun σ G => ∃ (vs : V) (d : PyData), σ = (sg a b ta rx cp cu ck co v8 v9 v10 v11 v12 v13 v14 v15 v16 v17 v18 v19).set 20 (some vs) ∧ LawE K CC CP G ta rx cp cu ck co r ∧ Dp K G vs d ∧ toldD d = false ∧ (∀ rs x y, d = .tuple [x, y, .tuple rs] → rs.length ≤ 1000) ∧ SeqAt.shaped (.tuple [.str "page", d]) = true, ?_, ?_⟩
      · refine ⟨_, rfl, _, rfl, b, l, _, 8, rfl, BE, by omega, by decide, by decide, fun x GE x0 x1 sb Bx => ?_⟩
        have LX := LE.but BE sb
        have nb := bag_kind BE
        have tp : ∀ {q : Addr} {us : List V}, WE' q = some (.tup us) → GE q = some (.tup us) := fun h => sb _ _ (fun y => nb.1 _ (y ▸ h)) h
        have ls : ∀ {q : Addr} {us : List V}, WE' q = some (.lst us) → GE q = some (.lst us) := fun h => sb _ _ (fun y => nb.2.1 _ (y ▸ h)) h
        have hS := ls eE
        rcases (by omega : x = 0 ∨ x = 1 ∨ x = 2 ∨ x = 3 ∨ x = 4 ∨ x = 5 ∨ x = 6 ∨ x = 7) with e | e | e | e | e | e | e | e
        · subst e; exact ⟨S, _, 0, .non, rfl, rfl, SqL.of hS, atI_nat (j := 0) rfl, _, _, rfl, LX, .non, rfl, (fun rs x y e => by cases e), by decide +kernel⟩
        · subst e; exact ⟨S, _, 1, .ref t1, rfl, rfl, SqL.of hS, atI_nat (j := 1) rfl, _, _, rfl, LX, .tup (SqT.of (tp g1)) (.cons (.int 9) (.cons (.int 9) .nil)), rfl, (fun rs x y e => by cases e), by decide +kernel⟩
        · subst e; exact ⟨S, _, 2, .ref t2, rfl, rfl, SqL.of hS, atI_nat (j := 2) rfl, _, _, rfl, LX, .lst (SqL.of (ls g2)) (.cons (.int 9) (.cons (.int 9) (.cons (.tup (SqT.of (tp h2)) .nil) .nil))), rfl, (fun rs x y e => by cases e), by decide +kernel⟩
        · subst e; exact ⟨S, _, 3, .ref t3, rfl, rfl, SqL.of hS, atI_nat (j := 3) rfl, _, _, rfl, LX, .tup (SqT.of (tp g3)) (.cons (.int 9) (.cons (.int 9) (.cons (.lst (SqL.of (ls h3)) .nil) .nil))), rfl, (fun rs x y e => by cases e), by decide +kernel⟩
        · subst e; exact ⟨S, _, 4, .ref t4, rfl, rfl, SqL.of hS, atI_nat (j := 4) rfl, _, _, rfl, LX, .tup (SqT.of (tp g4)) (.cons (.int 9) (.cons (.str "9") (.cons (.tup (SqT.of (tp h4)) .nil) .nil))), rfl, (fun rs x y e => by cases e; decide), by decide +kernel⟩
        · subst e; exact ⟨S, _, 5, .ref t5, rfl, rfl, SqL.of hS, atI_nat (j := 5) rfl, _, _, rfl, LX, .tup (SqT.of (tp g5)) (.cons (.bl true) (.cons (.int 9) (.cons (.tup (SqT.of (tp h5)) .nil) .nil))), rfl, (fun rs x y e => by cases e; decide), by decide +kernel⟩
        · subst e; exact ⟨S, _, 6, .ref t6, rfl, rfl, SqL.of hS, atI_nat (j := 6) rfl, _, _, rfl, LX, .tup (SqT.of (tp g6)) (.cons (.int 9) (.cons (.int 9) (.cons (.tup (SqT.of (tp h7)) (.cons (.tup (SqT.of (tp h6)) (.cons (.int 1) .nil)) .nil)) .nil))), rfl, (fun rs x y e => by cases e; decide), by decide +kernel⟩
        · subst e; exact ⟨S, _, 7, .str "page", rfl, rfl, SqL.of hS, atI_nat (j := 7) rfl, _, _, rfl, LX, .str "page", rfl, (fun rs x y e => by cases e), by decide +kernel⟩
      rintro σ GE ⟨vs, d, rfl, LX, dp, e0, few, sh⟩
      obtain ⟨z, fa, jv, CA, hf⟩ := LX.put
      refine ⟨_, rfl, _, rfl, cu, rx, fa, "put", z, jv, vs, .int 0, .int 0, r, rfl, CA, LX.ru, R, .int 0, .inl ⟨d, dp, e0, few, fun t G2 s2 ht => ?_⟩⟩
      refine ⟨_, rfl, (by show 2 ≤ sizeLine; decide), fun u hu => ?_⟩
      have s3 := same_new (o := .tup [.str "page", vs]) hu
      exact eq_pair (s3 _ _ ht) upd_same (Dp.same (s2.trans s3) dp) sh (k _)
end
end IdL
namespace Law
open PySem L2
/-- one error class as the top has left it -/
structure CF (P : Program) (K : PySem.W.Frag) (C fI CH : Addr) (nm qual : Str) (st : Stmt) (fs : List Str) : Prop where
  ns : PySem.W.nsIn K mainGlobals nm = some (some (.ref C))
  T : Er.Txt P K C fI qual st fs
  mro : ∀ v, PySem.W.mroIn K C v = some ((Value.ref C :: .ref CH :: veTail).contains v)
  E : ExcC K C
theorem cf_mk {P : Program} {K : PySem.W.Frag} {C fI CH cda cc : Addr} {nm qual n1 q1 : Str} {st : Stmt} {fs : List Str} {N : Addr} {bs : List Value} {sn : List Str} {sub : List Value} {ab : Bool} {col : Option Bool} {dd : Option Addr} {m0 m1 m2 m3 m5 : Option Value}
    {a0 b0 c0 kV doc pm ct : Value} {a1 b1 c1 an : Option Addr} {a2 b2 c2 : Array (Option Value)} {vs : Array Value} {file : Str} {tf : Tok}
    (ns : PySem.W.nsIn K mainGlobals nm = some (some (.ref C))) (xL : K.lookup C = some (excClassObj n1 q1 C N bs (.ref CH :: veTail) true sn sub ab col dd m0 m1 m2 m3 m5 "ValueError.__new__"))
    (iC : PySem.W.findIn K (.ref C) "__init__" = some (some (.ref fI))) (l : K.lookup fI = some ⟨a0, a1, .func (PySem.W.ksFn "__init__" qual (defArgs st) (defBody st) (defScope st) .none kV doc pm an (.ref cda) ct cc), a2⟩)
    (ld : K.lookup cda = some ⟨b0, b1, .fields vs, b2⟩) (le : K.lookup cc = some ⟨c0, c1, .cell (some (.ref C)), c2⟩) (cd : PySem.W.codeIn K (.ref cda) qual = true) (hv : vs[2]? = some (.str file tf)) (hf : ((P.main.file : Str) == file) = true)
    (tI : PySem.W.typeIn K (.ref fI) = some (.type "function")) (sa : PySem.W.findIn K (.ref C) "__setattr__" = some (some (.builtin "object.__setattr__"))) (ga : PySem.W.findIn K (.ref C) "__getattribute__" = some (some (.builtin "BaseException.__getattribute__")))
    (gg : PySem.W.findIn K (.ref C) "__getattr__" = some none) (gc : PySem.W.findIn K (.ref C) "__class__" = some (some (.builtin "object.__class__"))) (tyC : PySem.W.typeIn K (.ref C) = some (.type "type")) (kC : PySem.W.keepIn K (.ref C) = true)
    (sup : PySem.W.ks_superIn K C C "__init__" = some (some (.builtin "ValueError.__init__"))) (anyS : PySem.W.nsIn K cStatics "thirdparty.any" = some none) (noN : ∀ f ∈ fs, PySem.W.findIn K (.ref C) f = some none) (top : (P.main.scope.names.lookup ("super" : Str)).isSome = false)
    (sp : PySem.W.specialIn K (.builtin "object.__class__") "__get__" = some (some (.builtin "getset_descriptor.__get__"))) (tk : PySem.W.takesIn K (.builtin "object.__class__") = some true) : CF P K C fI CH nm qual st fs := by
  have hcl : PySem.W.clsIn K C = some { name := n1, bases := bs, mro := .ref C :: .ref CH :: veTail, ns := N, qualname := q1, hasDict := true, slotNames := sn, subclasses := sub, abstract := ab, collection := col, hasDel := false } := by
    unfold PySem.W.clsIn
    rw [xL] <;> rfl
  have mro : ∀ v, PySem.W.mroIn K C v = some ((Value.ref C :: .ref CH :: veTail).contains v) := fun v => by
    unfold PySem.W.mroIn
    rw [hcl]
    rfl
  have hd : PySem.W.hasDictIn K C = true := by
    unfold PySem.W.hasDictIn
    rw [hcl]
    rfl
  have ty : ∀ T : String, veTail.contains (.type T) = true → PySem.W.mroIn K C (.type T) = some true := fun T h => by
    rw [mro]
    refine congrArg some ?_
    have e1 : (Value.type T == Value.ref C) = false := rfl
    have e2 : (Value.type T == Value.ref CH) = false := rfl
    rw [List.contains_cons, List.contains_cons, e1, e2, h]
    rfl
  have oc : OexC K C := ⟨⟨n1, q1, N, bs, .ref CH :: veTail, sn, sub, ab, col, dd, m0, m1, m2, m3, m5, xL, by
    show PySem.HandSPX.refsVE veTail = true
    decide +kernel⟩, sa, ty "BaseException" (by decide +kernel), tyC, kC⟩
  refine ⟨ns, ⟨oc, ⟨ga, gg, ty "BaseException" (by decide +kernel), hd⟩, iC, tI, sup, ?_, ty "ValueError" (by decide +kernel), anyS, noN, top, ⟨_, _, _, _, _, _, _, _, _, _, _, _, _, _, _, _, _, _, _, l, cd, ld, hv, hf, le⟩⟩, mro, ⟨ga, gg, ty "BaseException" (by decide +kernel), hd, gc, sp, tk, ty "object" (by decide +kernel)⟩⟩
  rw [mro, List.contains_cons, beq_self_eq_true, Bool.true_or]
end Law
/-! The head by one run: what is looked at is a Bool of the written part, and each def as it stands. -/
namespace Hd
open PySem PySem.Spec PyProof.Rows L2 He
theorem isNon_ok {v : Value} (h : isNon v = true) : v = .none := by cases v <;> first | rfl | cases h
theorem func_of {K : PySem.W.Frag} {a : Addr} {x qual : Str} {st : Stmt} {cl : List Str} (e : fnO K a = fnV x qual st cl) : ∃ oc od fd osl, K.lookup a = some ⟨oc, od, .func fd, osl⟩ ∧ fd.name = x ∧ fd.qualname = qual ∧ fd.params = defArgs st ∧ fd.body = .stmts (defBody st) ∧ fd.scope = defScope st ∧ fd.globals = mainGlobals ∧ fd.closure.map (·.1) = cl ∧ fd.builtins = builtinsNs := by
  unfold fnO at e
  split at e
  · rename_i oc od fd osl lk
    have q := Option.some.inj e
    simp only [Prod.mk.injEq] at q
    exact ⟨oc, od, fd, osl, lk, q.1, q.2.1, q.2.2.1, q.2.2.2.1, q.2.2.2.2.1, q.2.2.2.2.2.1, q.2.2.2.2.2.2.1, q.2.2.2.2.2.2.2⟩
  · cases e
theorem fun_of {K : PySem.W.Frag} {a : Addr} {x qual : Str} {st : Stmt} (e : fnO K a = fnV x qual st []) (b : fnB K a qual = true) : ∃ fd, Fun K x qual st a fd := by
  obtain ⟨oc, od, fd, osl, lk, h1, h2, h3, h4, h5, h6, h7, h8⟩ := func_of e
  obtain ⟨kp, b2⟩ := ba b
  rw [lk] at b2
  obtain ⟨cd, dn⟩ := ba b2
  have dn' := isNon_ok dn
  have cl : fd.closure = [] := List.map_eq_nil_iff.mp h7
  obtain ⟨nm, qn, pa, bo, sc, gl, clo, df, kd, doc, pm, an, code, ct, bl⟩ := fd
  dsimp only at h1 h2 h3 h4 h5 h6 h8 cl dn' cd
  subst h1 h2 h3 h4 h5 h6 h8 cl dn'
  exact ⟨_, ⟨⟨oc, od, kd, doc, pm, an, code, ct, osl, rfl, lk, cd⟩, kp⟩⟩
/-! ### an error class -/
theorem fileB_ok {P : Program} {K : PySem.W.Frag} {cda : Addr} (h : fileB P K cda = true) : ∃ b0 b1 vs b2 file tf, K.lookup cda = some ⟨b0, b1, .fields vs, b2⟩ ∧ vs[2]? = some (.str file tf) ∧ ((P.main.file : Str) == file) = true := by
  unfold fileB at h
  split at h
  · rename_i b0 b1 vs b2 lk
    split at h
    · rename_i file tf hv
      exact ⟨b0, b1, vs, b2, file, tf, lk, hv, h⟩
    · cases h
  · cases h
theorem cellB_ok {K : PySem.W.Frag} {cc C : Addr} (h : cellB K cc C = true) : ∃ c0 c1 c2, K.lookup cc = some ⟨c0, c1, .cell (some (.ref C)), c2⟩ := by
  unfold cellB at h
  split at h
  · rename_i c0 c1 D c2 lk
    obtain rfl : D = C := eq_of_beq h
    exact ⟨c0, c1, c2, lk⟩
  · cases h
theorem refOf_ok {v : Value} {a : Addr} (h : refOf v = some a) : v = .ref a := by cases v <;> first | (cases h; rfl) | cases h
theorem initB_ok {P : Program} {K : PySem.W.Frag} {C : Addr} {qual : Str} {fd : FuncData} (h : initB P K C qual fd = true) :
    fd.defaults = .none ∧ ∃ q cda, fd.closure = [q] ∧ fd.code = .ref cda ∧ PySem.W.codeIn K (.ref cda) qual = true ∧ fileB P K cda = true ∧ cellB K q.2 C = true := by
  obtain ⟨h1, h2⟩ := ba h
  refine ⟨isNon_ok h1, ?_⟩
  split at h2
  · rename_i q hc
    split at h2
    · rename_i cda hr
      obtain ⟨h3, h4⟩ := ba h2
      obtain ⟨h5, h6⟩ := ba h4
      exact ⟨q, cda, hc, refOf_ok hr, h3, h5, h6⟩
    · cases h2
  · cases h2
theorem clsB_ok {K : PySem.W.Frag} {C CH : Addr} (h : clsB K C CH = true) : ∃ n1 q1 N bs sn sub ab col dd m0 m1 m2 m3 m5, K.lookup C = some (excClassObj n1 q1 C N bs (.ref CH :: Law.veTail) true sn sub ab col dd m0 m1 m2 m3 m5 "ValueError.__new__") := by
  unfold clsB at h
  split at h
  · rename_i dd cd sl lk
    obtain ⟨h1, h⟩ := ba h
    obtain ⟨h2, h⟩ := ba h
    obtain ⟨h3, h4⟩ := ba h
    have hm := of_decide_eq_true h1
    split at h4
    · rename_i k0 k1 k2 k3 n k5 hs
      obtain rfl : n = "ValueError.__new__" := eq_of_beq h4
      obtain ⟨nm, bs, mro, ns, qn, hd, sn, sub, ab, col, del⟩ := cd
      dsimp only at hm h2 h3
      have hdel : del = false := by simpa using h3
      subst hm h2 hdel
      have hsl : sl = #[k0, k1, k2, k3, some (.builtin "ValueError.__new__"), k5] := by
        obtain ⟨l⟩ := sl
        simp only at hs
        rw [hs]
      subst hsl
      exact ⟨_, _, _, _, _, _, _, _, _, _, _, _, _, _, lk⟩
    · cases h4
  · cases h
theorem err_of {P : Program} {K : PySem.W.Frag} {x hn qual : Str} {st : Stmt} {fs : List Str} (b : errB P K x hn qual fs = true) (c : comB K = true) (e : fnO K (ma K (ga K x) "__init__") = fnV "__init__" qual st ["__class__"]) (top : (P.main.scope.names.lookup ("super" : Str)).isSome = false) :
    Law.CF P K (ga K x) (ma K (ga K x) "__init__") (ga K hn) x qual st fs := by
  obtain ⟨b1, b⟩ := ba b
  obtain ⟨b2, b⟩ := ba b
  obtain ⟨b3, b⟩ := ba b
  obtain ⟨b4, b⟩ := ba b
  obtain ⟨b5, b⟩ := ba b
  obtain ⟨b6, b⟩ := ba b
  obtain ⟨b7, b⟩ := ba b
  obtain ⟨b8, b⟩ := ba b
  obtain ⟨b9, b⟩ := ba b
  obtain ⟨b10, b⟩ := ba b
  obtain ⟨b11, b⟩ := ba b
  obtain ⟨b12, b13⟩ := ba b
  obtain ⟨c1, c⟩ := ba c
  obtain ⟨c2, c3⟩ := ba c
  obtain ⟨n1, q1, N, bs, sn, sub, ab, col, dd, m0, m1, m2, m3, m5, xL⟩ := clsB_ok b2
  obtain ⟨oc, od, fd, osl, lk, h1, h2, h3, h4, h5, h6, h7, h8⟩ := func_of e
  rw [lk] at b4
  obtain ⟨dn, q, cda, hclo, hcode, d1, d2, d3⟩ := initB_ok b4
  obtain ⟨f0, f1, vs, f2, file, tf, lk2, hv, hf⟩ := fileB_ok d2
  obtain ⟨g0, g1, g2, lk3⟩ := cellB_ok d3
  obtain ⟨cn, cc⟩ := q
  obtain ⟨nm, qn, pa, bo, sc, gl, clo, df, kd, doc, pm, an, code, ct, bl⟩ := fd
  dsimp only at h1 h2 h3 h4 h5 h6 h7 h8 dn hclo hcode
  subst hclo hcode
  have hn1 : cn = ("__class__" : Str) := by
    have z : ([cn] : List Str) = [("__class__" : Str)] := h7
    exact (List.cons.inj z).1
  subst h1 h2 h3 h4 h5 h6 h8 dn hn1
  exact Law.cf_mk (eqO_ok b1) xL (eqO_ok b3) lk lk2 lk3 d1 hv hf (of_decide_eq_true b5) (eqO_ok b6) (eqO_ok b7) (eqO_ok b8) (eqO_ok b9) (of_decide_eq_true b10) b11 (eqO_ok b12) (eqO_ok c1) (fun f hf => eqO_ok (List.all_eq_true.mp b13 f hf)) top (eqO_ok c2) (of_decide_eq_true c3)
/-! ### the Hook -/
theorem tab_ok {ts : List (Str × List Str)} {K : PySem.W.Frag} {w : World} (h : tabO ts K = tabV ts w) {t : Str × List Str} (ht : t ∈ ts) : ∃ es n, KDict K w (ga K t.1) es n := by
  obtain ⟨i, hi⟩ := List.mem_iff_getElem?.mp ht
  have e2 : (tabO ts K)[i]? = (tabV ts w)[i]? := by rw [h]
  unfold tabO tabV at e2
  rw [List.getElem?_map, List.getElem?_map, hi] at e2
  exact dicW_ok (Option.some.inj e2)
theorem obL_eq {as : List Addr} {ex : PySem.W.Frag → Bool} {fv : PySem.W.Frag → List FnO} {fw : List FnO} {ts : List (Str × List Str)} (s : PySem.W.SharedT) : obL as ex fv ts s = (hookL as ex fv fw ts).obs s.abs := by
  have e : HandSHeadRun.getT s = s.abs.heap.get? := funext fun a => HandSHeadRun.getT_eq s a
  unfold obL
  rw [e] <;> rfl
/-! ### tuples, dicts of texts -/
theorem tupAt_ok {K : PySem.W.Frag} {a : Addr} {xs : List Str} (h : tupAt K a xs = true) : IdL.KTup K a (xs.map V.str) := by
  unfold tupAt at h
  cases q : K.lookup a with
  | none =>
    rw [q] at h
    cases h
  | some o =>
    obtain ⟨oc, od, dt, osl⟩ := o
    rw [q] at h
    cases oc with
    | type c =>
      cases dt with
      | seq its n =>
        obtain ⟨h1, h2⟩ := ba (show (decide (c = "tuple") && (decide (its.size ≤ sizeLine) && relAll (xs.map V.str) its.toList)) = true from h)
        obtain ⟨h3, h4⟩ := ba h2
        exact ⟨_, its, n, q, congrArg Value.type (of_decide_eq_true h1), rfl, of_decide_eq_true h3, relAll_ok h4⟩
      | _ => cases h
    | _ => cases dt <;> cases h
theorem kdct_of {K : PySem.W.Frag} {w : World} {d : Addr} {k : Str} (t : ∃ es n, KDict K w d es n) (b : atB K d k = true) : KDct K w d k (.ref (atK K d k)) := by
  obtain ⟨es, n, D⟩ := t
  exact ⟨es, n, _, D.at_, D.lit, eqO_ok b, rfl⟩

/-! ### defaults -/
theorem funD_of {K : PySem.W.Frag} {a : Addr} {x qual : Str} {st : Stmt} {dvs : List V} (hd : dvs ≠ []) (e : fnO K a = fnV x qual st []) (b : fnDB K a qual dvs = true) : ∃ fd, FunD K x qual (defArgs st) (defBody st) (defScope st) dvs [] a fd := by
  obtain ⟨oc, od, fd, osl, lk, h1, h2, h3, h4, h5, h6, h7, h8⟩ := func_of e
  obtain ⟨kp, b2⟩ := ba b
  rw [lk] at b2
  obtain ⟨cd, dn⟩ := ba b2
  have cl : fd.closure = [] := List.map_eq_nil_iff.mp h7
  obtain ⟨nm, qn, pa, bo, sc, gl, clo, df, kd, doc, pm, an, code, ct, bl⟩ := fd
  dsimp only at h1 h2 h3 h4 h5 h6 h8 cl dn cd
  subst h1 h2 h3 h4 h5 h6 h8 cl
  refine ⟨_, ⟨⟨oc, od, df, kd, doc, pm, an, code, ct, osl, rfl, lk, cd, .inr ⟨hd, ?_⟩, .inl rfl⟩, kp⟩⟩
  unfold dflB at dn
  split at dn
  · rename_i T
    split at dn
    · rename_i c0 c1 its n c2 lT
      exact ⟨T, _, its.toList, n, rfl, lT, rfl, relAll_ok dn⟩
    · cases dn
  · cases dn
/-! ### dicts of tuples -/
theorem flat_td {K : PySem.W.Frag} {H : Hp} : ∀ {ds : List PyData}, ds.all flatOk = true → IdL.TDs K H (ds.map flatV') ds
  | [], _ => .nil
  | d :: ds, h => by
    rw [List.all_cons] at h
    obtain ⟨h1, h2⟩ := ba h
    refine .cons ?_ (flat_td h2)
    cases d with
    | none => exact .non
    | bool b => exact .bl b
    | int i => exact .int i
    | str z => exact .str z
    | _ => cases h1
theorem datB_ok {K : PySem.W.Frag} {v : Value} {d : PyData} (h : datB K v d = true) : ∃ t, v = .ref t ∧ ∀ H, IdL.TD K H (.ref t) d := by
  unfold datB at h
  split at h
  · rename_i a ds
    obtain ⟨h1, h⟩ := ba h
    split at h
    · rename_i c c1 its n c2 lk
      obtain ⟨h3, h4⟩ := ba h
      obtain ⟨h5, h6⟩ := ba h4
      have hc : c = "tuple" := of_decide_eq_true h3
      subst hc
      exact ⟨a, rfl, fun H => .tup (.inr ⟨_, its, n, lk, rfl, rfl, of_decide_eq_true h5, relAll_ok h6⟩) (flat_td h1)⟩
    · cases h
  · cases h
theorem entAll_ok {K : PySem.W.Frag} : ∀ {es : List DictEntry} {l : List (Str × PyData)}, entAll K es l = true → ∀ z : Str, (es.any (·.refKey) = false) ∧ match l.lookup z with
    | some d => ∃ e t, es.find? (·.key.isStr z) = some e ∧ e.val = .ref t ∧ ∀ H, IdL.TD K H (.ref t) d
    | none => es.find? (·.key.isStr z) = none
  | [], [], _, z => ⟨rfl, rfl⟩
  | [], _ :: _, h, _ => by cases h
  | _ :: _, [], h, _ => by cases h
  | e :: es, (x, d) :: r, h, z => by
    obtain ⟨h1, h2⟩ := ba (show ((match e.key with
      | .str k _ => decide (k = x) && datB K e.val d
      | _ => false) && (!e.refKey && entAll K es r)) = true from h)
    obtain ⟨h2, h3⟩ := ba h2
    obtain ⟨i1, i2⟩ := entAll_ok h3 z
    split at h1
    · rename_i k t hk
      obtain ⟨h4, h5⟩ := ba h1
      have e1 : k = x := of_decide_eq_true h4
      subst e1
      refine ⟨by rw [List.any_cons, i1, Bool.or_false]; simpa using h2, ?_⟩
      rw [List.lookup_cons]
      by_cases hz : z = k
      · subst hz
        rw [beq_self_eq_true]
        obtain ⟨t, e2, e3⟩ := datB_ok h5
        refine ⟨e, t, ?_, e2, e3⟩
        rw [List.find?_cons_of_pos]
        rw [hk]
        show (z == z) = true
        exact beq_self_eq_true _
      · rw [beq_eq_false_iff_ne.mpr hz, List.find?_cons_of_neg]
        · exact i2
        · rw [hk]
          show ¬ (k == z) = true
          exact fun y => hz (eq_of_beq y).symm
    · cases h1
theorem entB_ok {K : PySem.W.Frag} {a : Addr} {l : List (Str × PyData)} (h : entB K a l = true) (z : Str) : ∃ r, PySem.W.nsIn K a z = some r ∧ match l.lookup z with
    | some d => ∃ t, r = some (.ref t) ∧ ∀ H, IdL.TD K H (.ref t) d
    | none => r = none := by
  unfold entB at h
  split at h
  · rename_i c0 c1 es n c2 lk
    obtain ⟨h1, h2⟩ := entAll_ok h z
    unfold PySem.W.nsIn
    rw [lk]
    cases e : l.lookup z with
    | none =>
      rw [e] at h2
      refine ⟨none, ?_, rfl⟩
      show (match es.toList.find? (·.key.isStr z) with
        | some e => some (some e.val)
        | none => if es.toList.any (·.refKey) then none else some none) = some none
      rw [h2, h1]; rfl
    | some d =>
      rw [e] at h2
      obtain ⟨en, t, h3, h4, h5⟩ := h2
      refine ⟨some (.ref t), ?_, t, rfl, h5⟩
      show (match es.toList.find? (·.key.isStr z) with
        | some e => some (some e.val)
        | none => if es.toList.any (·.refKey) then none else some none) = _
      rw [h3]
      show some (some en.val) = _
      rw [h4]
  · cases h
end Hd
namespace IdL
open PySem PySem.Spec PyProof.Rows L2 He Hd TL
theorem range_map {α : Type} {f g : Nat → α} {n : Nat} (h : (List.range n).map f = (List.range n).map g) : ∀ i, i < n → f i = g i := fun i hi => by
  have e : ((List.range n).map f)[i]? = ((List.range n).map g)[i]? := by rw [h]
  rw [List.getElem?_map, List.getElem?_map, List.getElem?_range hi] at e
  exact Option.some.inj e
theorem range_all {p : Nat → Bool} {n : Nat} (h : (List.range n).all p = true) : ∀ i, i < n → p i = true := fun i hi => List.all_eq_true.mp h i (List.mem_range.mpr hi)
theorem esAll_ok : ∀ {es : List DictEntry} {phr : List (Str × Str)}, esAll es phr = true → EsIs es phr
  | [], [], _ => .nil
  | [], _ :: _, h => by cases h
  | _ :: _, [], h => by cases h
  | e :: es, (x, y) :: r, h => by
    obtain ⟨h1, h2⟩ := ba (show ((match e.key, e.val with
      | .str k _, .str v _ => decide (k = x) && decide (v = y)
      | _, _ => false) && esAll es r) = true from h)
    split at h1
    · rename_i k t v u hk hv
      obtain ⟨h3, h4⟩ := ba h1
      have e1 : k = x := of_decide_eq_true h3
      have e2 : v = y := of_decide_eq_true h4
      subst e1 e2
      exact .cons hk hv (esAll_ok h2)
    · cases h1
theorem esB_ok {K : PySem.W.Frag} {w : World} {a : Addr} {phr : List (Str × Str)} {es : Array DictEntry} {n : Nat} (D : KDict K w a es n) (h : esB K a phr = true) : EsIs es.toList phr := by
  unfold esB at h
  rw [D.at_] at h
  exact esAll_ok h
end IdL
namespace IdL
open PySem PySem.Spec PyProof.Rows L2 He Hd TL
theorem form_BadKind : Er.Form (inClass (top 2) 0) ["kind"] where
  body := ⟨_, _, _, _, _, _, _, _, ⟨0, 0, 0, 0⟩, [(_, _, _, _)], rfl, rfl, rfl⟩
  bind := fun s us q kV doc pm ct cd an cc hl => match us, hl with | [_, _], _ => .of_eq rfl
  head := ⟨_, rfl, rfl⟩
  kind := rfl
  co := rfl
  gen := rfl
  nocell := by decide +kernel
  lsup := rfl
  lcls := rfl
  lloc := by decide +kernel
  dbg := by decide +kernel
  nd := by decide +kernel
theorem form_BadLine : Er.Form (inClass (top 3) 0) ["line"] where
  body := ⟨_, _, _, _, _, _, _, _, ⟨0, 0, 0, 0⟩, [(_, _, _, _)], rfl, rfl, rfl⟩
  bind := fun s us q kV doc pm ct cd an cc hl => match us, hl with | [_, _], _ => .of_eq rfl
  head := ⟨_, rfl, rfl⟩
  kind := rfl
  co := rfl
  gen := rfl
  nocell := by decide +kernel
  lsup := rfl
  lcls := rfl
  lloc := by decide +kernel
  dbg := by decide +kernel
  nd := by decide +kernel
theorem form_Refused : Er.Form (inClass (top 4) 0) ["line"] where
  body := ⟨_, _, _, _, _, _, _, _, ⟨0, 0, 0, 0⟩, [(_, _, _, _)], rfl, rfl, rfl⟩
  bind := fun s us q kV doc pm ct cd an cc hl => match us, hl with | [_, _], _ => .of_eq rfl
  head := ⟨_, rfl, rfl⟩
  kind := rfl
  co := rfl
  gen := rfl
  nocell := by decide +kernel
  lsup := rfl
  lcls := rfl
  lloc := by decide +kernel
  dbg := by decide +kernel
  nd := by decide +kernel
theorem form_BadRule : Er.Form (inClass (top 5) 0) ["what"] where
  body := ⟨_, _, _, _, _, _, _, _, ⟨0, 0, 0, 0⟩, [(_, _, _, _)], rfl, rfl, rfl⟩
  bind := fun s us q kV doc pm ct cd an cc hl => match us, hl with | [_, _], _ => .of_eq rfl
  head := ⟨_, rfl, rfl⟩
  kind := rfl
  co := rfl
  gen := rfl
  nocell := by decide +kernel
  lsup := rfl
  lcls := rfl
  lloc := by decide +kernel
  dbg := by decide +kernel
  nd := by decide +kernel
theorem form_BadSize : Er.Form (inClass (top 6) 0) ["size"] where
  body := ⟨_, _, _, _, _, _, _, _, ⟨0, 0, 0, 0⟩, [(_, _, _, _)], rfl, rfl, rfl⟩
  bind := fun s us q kV doc pm ct cd an cc hl => match us, hl with | [_, _], _ => .of_eq rfl
  head := ⟨_, rfl, rfl⟩
  kind := rfl
  co := rfl
  gen := rfl
  nocell := by decide +kernel
  lsup := rfl
  lcls := rfl
  lloc := by decide +kernel
  dbg := by decide +kernel
  nd := by decide +kernel
theorem form_BadPage : Er.Form (inClass (top 7) 0) ["page"] where
  body := ⟨_, _, _, _, _, _, _, _, ⟨0, 0, 0, 0⟩, [(_, _, _, _)], rfl, rfl, rfl⟩
  bind := fun s us q kV doc pm ct cd an cc hl => match us, hl with | [_, _], _ => .of_eq rfl
  head := ⟨_, rfl, rfl⟩
  kind := rfl
  co := rfl
  gen := rfl
  nocell := by decide +kernel
  lsup := rfl
  lcls := rfl
  lloc := by decide +kernel
  dbg := by decide +kernel
  nd := by decide +kernel
theorem form_BadHanded : Er.Form (inClass (top 8) 0) ["handed"] where
  body := ⟨_, _, _, _, _, _, _, _, ⟨0, 0, 0, 0⟩, [(_, _, _, _)], rfl, rfl, rfl⟩
  bind := fun s us q kV doc pm ct cd an cc hl => match us, hl with | [_, _], _ => .of_eq rfl
  head := ⟨_, rfl, rfl⟩
  kind := rfl
  co := rfl
  gen := rfl
  nocell := by decide +kernel
  lsup := rfl
  lcls := rfl
  lloc := by decide +kernel
  dbg := by decide +kernel
  nd := by decide +kernel
theorem form_TooMany : Er.Form (inClass (top 9) 0) ["what", "many", "most"] where
  body := ⟨_, _, _, _, _, _, _, _, ⟨0, 0, 0, 0⟩, [(_, _, _, _), (_, _, _, _), (_, _, _, _)], rfl, rfl, rfl⟩
  bind := fun s us q kV doc pm ct cd an cc hl => match us, hl with | [_, _, _, _], _ => .of_eq rfl
  head := ⟨_, rfl, rfl⟩
  kind := rfl
  co := rfl
  gen := rfl
  nocell := by decide +kernel
  lsup := rfl
  lcls := rfl
  lloc := by decide +kernel
  dbg := by decide +kernel
  nd := by decide +kernel
theorem allL {w : World} {K : PySem.W.Frag} {h : Heap} {mg : Str → Option Value} {fa : Addr} (X : K.In h) (G : h.Ns mainGlobals mg) (hfa : mg "law" = some (.ref fa)) (hx : exK K = true) (hv : fvK K = fwK) (ht : tabO tabL K = tabV tabL w) :
    ∃ fd : FuncData, (∀ (s : Shared) (v : Value), BindsTo s fd ⟨[v], []⟩ [("_law_script", v)]) ∧ ∀ base : Heap, K.In base → base.Ns mainGlobals mg → FnOk PR w K mg base CX0 11 fa fd ["_law_script"] (spLaw K) := by
  have ex : ∀ (i : Nat) {b : Bool}, (exL K)[i]? = some b → b = true := fun i b hb => List.all_eq_true.mp hx b (List.mem_of_getElem? hb)
  have x1 : comB K = true := ex 0 rfl
  have x2 := ex 1 rfl
  have x3 := ex 2 rfl
  have x4 := ex 3 rfl
  obtain ⟨v1, v2⟩ := List.append_inj hv (by rw [List.length_map, List.length_map])
  obtain ⟨v2, v3⟩ := List.append_inj v2 (by rw [List.length_map, List.length_map])
  have fo := range_map v1
  have co := range_map v2
  have fact : ∀ (i : Nat) {f : Fa}, faL[i]? = some f → f.ok K = true := fun i f hf => List.all_eq_true.mp x4 f (List.mem_of_getElem? hf)
  have meth : ∀ (i : Nat) {f f' : FnO}, ([fnO K (ma K (ga K "PageCode") "__init__"), fnO K (ma K (ga K "PageRules") "__init__"), fnO K (ma K (ga K "PageRules") "in_use"), fnO K (ma K (ga K "PageRules") "next_in_use"), fnO K (ma K (ga K "PageDesk") "__init__"), fnO K (ma K (ga K "PagePlay") "__init__"), fnO K (ga K "play_page")] : List FnO)[i]? = some f → ([fnV "__init__" "PageCode.__init__" sInit [], fnV "__init__" "PageRules.__init__" sPR [], fnV "in_use" "PageRules.in_use" sIu [], fnV "next_in_use" "PageRules.next_in_use" sNx [], fnV "__init__" "PageDesk.__init__" sPd [], fnV "__init__" "PagePlay.__init__" sPp [], fnV "play_page" "play_page" sPg5 []] : List FnO)[i]? = some f' → f = f' := fun i f f' h1 h2 => by
    rw [v3, h2] at h1
    exact (Option.some.inj h1).symm
  have FF : ∀ i, i < 56 → ∃ fd, Fun K (fnmOf i) (fnmOf i) (ftxOf i) (ga K (fnmOf i)) fd := fun i hi => fun_of (fo i hi) (ba (range_all x3 i hi)).1
  have g : ∀ i, i < 56 → mg (fnmOf i) = some (.ref (ga K (fnmOf i))) := fun i hi => PySem.W.mg_of X G (eqO_ok (ba (range_all x3 i hi)).2)
  have cf : ∀ k, k < 8 → Law.CF PR K (ga K (enmOf k)) (ma K (ga K (enmOf k)) "__init__") (ga K "HeldError") (enmOf k) (equOf k) (estOf k) (efsOf k) := fun k hk => err_of (range_all x2 k hk) x1 (co k hk) (by decide +kernel)
  obtain ⟨dLi, uLi'⟩ := FF 0 (by decide)
  have uLi : Fun K "split_lines" "split_lines" sLines (ga K "split_lines") dLi := uLi'
  have bLi := uLi.binds (ps := ["text"]) fun _ _ _ _ _ _ us hl => match us, hl with | [_], _ => rfl
  have gLi : mg "split_lines" = some (.ref (ga K "split_lines")) := g 0 (by decide)
  obtain ⟨dNu, uNu'⟩ := FF 1 (by decide)
  have uNu : Fun K "is_number" "is_number" sNum (ga K "is_number") dNu := uNu'
  have bNu := uNu.binds (ps := ["word"]) fun _ _ _ _ _ _ us hl => match us, hl with | [_], _ => rfl
  have gNu : mg "is_number" = some (.ref (ga K "is_number")) := g 1 (by decide)
  obtain ⟨dTe, uTe'⟩ := FF 2 (by decide)
  have uTe : Fun K "read_term" "read_term" sTerm (ga K "read_term") dTe := uTe'
  have bTe := uTe.binds (ps := ["word", "names"]) fun _ _ _ _ _ _ us hl => match us, hl with | [_, _], _ => rfl
  have gTe : mg "read_term" = some (.ref (ga K "read_term")) := g 2 (by decide)
  obtain ⟨dSu, uSu'⟩ := FF 3 (by decide)
  have uSu : Fun K "read_sum" "read_sum" sSum (ga K "read_sum") dSu := uSu'
  have bSu := uSu.binds (ps := ["words", "names"]) fun _ _ _ _ _ _ us hl => match us, hl with | [_, _], _ => rfl
  have gSu : mg "read_sum" = some (.ref (ga K "read_sum")) := g 3 (by decide)
  obtain ⟨dPa, uPa'⟩ := FF 4 (by decide)
  have uPa : Fun K "read_part" "read_part" sPart (ga K "read_part") dPa := uPa'
  have bPa := uPa.binds (ps := ["words", "names", "phrases"]) fun _ _ _ _ _ _ us hl => match us, hl with | [_, _, _], _ => rfl
  have gPa : mg "read_part" = some (.ref (ga K "read_part")) := g 4 (by decide)
  obtain ⟨dPs, uPs'⟩ := FF 5 (by decide)
  have uPs : Fun K "split_parts" "split_parts" sParts (ga K "split_parts") dPs := uPs'
  have bPs := uPs.binds (ps := ["words"]) fun _ _ _ _ _ _ us hl => match us, hl with | [_], _ => rfl
  have gPs : mg "split_parts" = some (.ref (ga K "split_parts")) := g 5 (by decide)
  obtain ⟨dTs, uTs'⟩ := FF 6 (by decide)
  have uTs : Fun K "read_test" "read_test" sTest (ga K "read_test") dTs := uTs'
  have bTs := uTs.binds (ps := ["words", "names", "phrases"]) fun _ _ _ _ _ _ us hl => match us, hl with | [_, _, _], _ => rfl
  have gTs : mg "read_test" = some (.ref (ga K "read_test")) := g 6 (by decide)
  obtain ⟨dSp, uSp'⟩ := FF 7 (by decide)
  have uSp : Fun K "is_spaced" "is_spaced" sSpaced (ga K "is_spaced") dSp := uSp'
  have bSp := uSp.binds (ps := ["words"]) fun _ _ _ _ _ _ us hl => match us, hl with | [_], _ => rfl
  have gSp : mg "is_spaced" = some (.ref (ga K "is_spaced")) := g 7 (by decide)
  obtain ⟨dCl, uCl'⟩ := FF 8 (by decide)
  have uCl : Fun K "close_block" "close_block" sClose (ga K "close_block") dCl := uCl'
  have bCl := uCl.binds (ps := ["form", "line", "stack", "jumps"]) fun _ _ _ _ _ _ us hl => match us, hl with | [_, _, _, _], _ => rfl
  have gCl : mg "close_block" = some (.ref (ga K "close_block")) := g 8 (by decide)
  obtain ⟨dFo, uFo'⟩ := FF 9 (by decide)
  have uFo : Fun K "read_forms" "read_forms" sForms (ga K "read_forms") dFo := uFo'
  have bFo := uFo.binds (ps := ["rows", "read_line"]) fun _ _ _ _ _ _ us hl => match us, hl with | [_, _], _ => rfl
  have gFo : mg "read_forms" = some (.ref (ga K "read_forms")) := g 9 (by decide)
  obtain ⟨dCo, uCo'⟩ := FF 10 (by decide)
  have uCo : Fun K "read_code" "read_code" sCode (ga K "read_code") dCo := uCo'
  have bCo := uCo.binds (ps := ["text", "read_line", "most_lines", "most_ifs"]) fun _ _ _ _ _ _ us hl => match us, hl with | [_, _, _, _], _ => rfl
  have gCo : mg "read_code" = some (.ref (ga K "read_code")) := g 10 (by decide)
  obtain ⟨dSt, uSt'⟩ := FF 11 (by decide)
  have uSt : Fun K "step_on" "step_on" sStep (ga K "step_on") dSt := uSt'
  have bSt := uSt.binds (ps := ["forms", "jumps", "line"]) fun _ _ _ _ _ _ us hl => match us, hl with | [_, _, _], _ => rfl
  have gSt : mg "step_on" = some (.ref (ga K "step_on")) := g 11 (by decide)
  obtain ⟨dWy, uWy'⟩ := FF 12 (by decide)
  have uWy : Fun K "find_ways" "find_ways" sWays (ga K "find_ways") dWy := uWy'
  have bWy := uWy.binds (ps := ["forms", "jumps"]) fun _ _ _ _ _ _ us hl => match us, hl with | [_, _], _ => rfl
  have gWy : mg "find_ways" = some (.ref (ga K "find_ways")) := g 12 (by decide)
  obtain ⟨dLk, uLk'⟩ := FF 13 (by decide)
  have uLk : Fun K "line_kinds" "line_kinds" sLk (ga K "line_kinds") dLk := uLk'
  have bLk := uLk.binds (ps := ["row"]) fun _ _ _ _ _ _ us hl => match us, hl with | [_], _ => rfl
  have gLk : mg "line_kinds" = some (.ref (ga K "line_kinds")) := g 13 (by decide)
  obtain ⟨dCn, uCn'⟩ := FF 14 (by decide)
  have uCn : Fun K "counted_names" "counted_names" sCn (ga K "counted_names") dCn := uCn'
  have bCn := uCn.binds (ps := ["form"]) fun _ _ _ _ _ _ us hl => match us, hl with | [_], _ => rfl
  have gCn : mg "counted_names" = some (.ref (ga K "counted_names")) := g 14 (by decide)
  obtain ⟨dMo, uMo'⟩ := FF 15 (by decide)
  have uMo : Fun K "most_of" "most_of" sMo (ga K "most_of") dMo := uMo'
  have bMo := uMo.binds (ps := ["name"]) fun _ _ _ _ _ _ us hl => match us, hl with | [_], _ => rfl
  have gMo : mg "most_of" = some (.ref (ga K "most_of")) := g 15 (by decide)
  obtain ⟨dAe, uAe'⟩ := FF 16 (by decide)
  have uAe : Fun K "asks_empty" "asks_empty" sAe (ga K "asks_empty") dAe := uAe'
  have bAe := uAe.binds (ps := ["form"]) fun _ _ _ _ _ _ us hl => match us, hl with | [_], _ => rfl
  have gAe : mg "asks_empty" = some (.ref (ga K "asks_empty")) := g 16 (by decide)
  obtain ⟨dBl, uBl'⟩ := FF 17 (by decide)
  have uBl : Fun K "breaks_limit" "breaks_limit" sBl (ga K "breaks_limit") dBl := uBl'
  have bBl := uBl.binds (ps := ["form", "counts"]) fun _ _ _ _ _ _ us hl => match us, hl with | [_, _], _ => rfl
  have gBl : mg "breaks_limit" = some (.ref (ga K "breaks_limit")) := g 17 (by decide)
  obtain ⟨dWb, uWb'⟩ := FF 18 (by decide)
  have uWb : Fun K "way_break" "way_break" sWb (ga K "way_break") dWb := uWb'
  have bWb := uWb.binds (ps := ["forms", "way"]) fun _ _ _ _ _ _ us hl => match us, hl with | [_, _], _ => rfl
  have gWb : mg "way_break" = some (.ref (ga K "way_break")) := g 18 (by decide)
  obtain ⟨dLe, uLe'⟩ := FF 19 (by decide)
  have uLe : Fun K "least_refused" "least_refused" sLeast (ga K "least_refused") dLe := uLe'
  have bLe := uLe.binds (ps := ["kind", "rows", "forms", "jumps"]) fun _ _ _ _ _ _ us hl => match us, hl with | [_, _, _, _], _ => rfl
  have gLe : mg "least_refused" = some (.ref (ga K "least_refused")) := g 19 (by decide)
  obtain ⟨dRe, uRe'⟩ := FF 20 (by decide)
  have uRe : Fun K "read_register" "read_register" sReg (ga K "read_register") dRe := uRe'
  have bRe := uRe.binds (ps := ["target", "words"]) fun _ _ _ _ _ _ us hl => match us, hl with | [_, _], _ => rfl
  have gRe : mg "read_register" = some (.ref (ga K "read_register")) := g 20 (by decide)
  obtain ⟨dSe, uSe'⟩ := FF 21 (by decide)
  have uSe : Fun K "read_setting" "read_setting" sSett (ga K "read_setting") dSe := uSe'
  have bSe := uSe.binds (ps := ["target", "words"]) fun _ _ _ _ _ _ us hl => match us, hl with | [_, _], _ => rfl
  have gSe : mg "read_setting" = some (.ref (ga K "read_setting")) := g 21 (by decide)
  obtain ⟨dPg, uPg'⟩ := FF 22 (by decide)
  have uPg : Fun K "read_page_line" "read_page_line" sPg (ga K "read_page_line") dPg := uPg'
  have bPg := uPg.binds (ps := ["words"]) fun _ _ _ _ _ _ us hl => match us, hl with | [_], _ => rfl
  have gPg : mg "read_page_line" = some (.ref (ga K "read_page_line")) := g 22 (by decide)
  obtain ⟨dWh, uWh'⟩ := FF 23 (by decide)
  have uWh : Fun K "is_whole" "is_whole" sWhole (ga K "is_whole") dWh := uWh'
  have bWh := uWh.binds (ps := ["value"]) fun _ _ _ _ _ _ us hl => match us, hl with | [_], _ => rfl
  have gWh : mg "is_whole" = some (.ref (ga K "is_whole")) := g 23 (by decide)
  obtain ⟨dFr, uFr'⟩ := FF 24 (by decide)
  have uFr : Fun K "is_from" "is_from" sFrom (ga K "is_from") dFr := uFr'
  have bFr := uFr.binds (ps := ["value", "least"]) fun _ _ _ _ _ _ us hl => match us, hl with | [_, _], _ => rfl
  have gFr : mg "is_from" = some (.ref (ga K "is_from")) := g 24 (by decide)
  obtain ⟨dBe, uBe'⟩ := FF 25 (by decide)
  have uBe : Fun K "is_between" "is_between" sBetw (ga K "is_between") dBe := uBe'
  have bBe := uBe.binds (ps := ["value", "least", "most"]) fun _ _ _ _ _ _ us hl => match us, hl with | [_, _, _], _ => rfl
  have gBe : mg "is_between" = some (.ref (ga K "is_between")) := g 25 (by decide)
  obtain ⟨dRu, uRu'⟩ := FF 26 (by decide)
  have uRu : Fun K "round_up" "round_up" sRu (ga K "round_up") dRu := uRu'
  have bRu := uRu.binds (ps := ["number", "unit"]) fun _ _ _ _ _ _ us hl => match us, hl with | [_, _], _ => rfl
  have gRu : mg "round_up" = some (.ref (ga K "round_up")) := g 26 (by decide)
  obtain ⟨dCs, uCs'⟩ := FF 27 (by decide)
  have uCs : Fun K "check_size" "check_size" sCs (ga K "check_size") dCs := uCs'
  have bCs := uCs.binds (ps := ["size"]) fun _ _ _ _ _ _ us hl => match us, hl with | [_], _ => rfl
  have gCs : mg "check_size" = some (.ref (ga K "check_size")) := g 27 (by decide)
  obtain ⟨dHr, uHr'⟩ := FF 28 (by decide)
  have uHr : Fun K "has_record" "has_record" sHr (ga K "has_record") dHr := uHr'
  have bHr := uHr.binds (ps := ["desk", "slot"]) fun _ _ _ _ _ _ us hl => match us, hl with | [_, _], _ => rfl
  have gHr : mg "has_record" = some (.ref (ga K "has_record")) := g 28 (by decide)
  obtain ⟨dRw, uRw'⟩ := FF 29 (by decide)
  have uRw : Fun K "row_of" "row_of" sRw (ga K "row_of") dRw := uRw'
  have bRw := uRw.binds (ps := ["desk"]) fun _ _ _ _ _ _ us hl => match us, hl with | [_], _ => rfl
  have gRw : mg "row_of" = some (.ref (ga K "row_of")) := g 29 (by decide)
  obtain ⟨dWr, uWr'⟩ := FF 30 (by decide)
  have uWr : Fun K "is_written" "is_written" sWr (ga K "is_written") dWr := uWr'
  have bWr := uWr.binds (ps := ["desk"]) fun _ _ _ _ _ _ us hl => match us, hl with | [_], _ => rfl
  have gWr : mg "is_written" = some (.ref (ga K "is_written")) := g 30 (by decide)
  obtain ⟨dPi, uPi'⟩ := FF 31 (by decide)
  have uPi : Fun K "is_pair" "is_pair" sPa (ga K "is_pair") dPi := uPi'
  have bPi := uPi.binds (ps := ["value"]) fun _ _ _ _ _ _ us hl => match us, hl with | [_], _ => rfl
  have gPi : mg "is_pair" = some (.ref (ga K "is_pair")) := g 31 (by decide)
  obtain ⟨dRc, uRc'⟩ := FF 32 (by decide)
  have uRc : Fun K "is_record" "is_record" sRe (ga K "is_record") dRc := uRc'
  have bRc := uRc.binds (ps := ["value"]) fun _ _ _ _ _ _ us hl => match us, hl with | [_], _ => rfl
  have gRc : mg "is_record" = some (.ref (ga K "is_record")) := g 32 (by decide)
  obtain ⟨dTl, uTl'⟩ := FF 33 (by decide)
  have uTl : Fun K "is_told" "is_told" IdL.sTo (ga K "is_told") dTl := uTl'
  have bTl := uTl.binds (ps := ["page"]) fun _ _ _ _ _ _ us hl => match us, hl with | [_], _ => rfl
  have gTl : mg "is_told" = some (.ref (ga K "is_told")) := g 33 (by decide)
  obtain ⟨dRo, uRo'⟩ := FF 34 (by decide)
  have uRo : Fun K "rooms_of" "rooms_of" sRo (ga K "rooms_of") dRo := uRo'
  have bRo := uRo.binds (ps := ["rules", "row"]) fun _ _ _ _ _ _ us hl => match us, hl with | [_, _], _ => rfl
  have gRo : mg "rooms_of" = some (.ref (ga K "rooms_of")) := g 34 (by decide)
  obtain ⟨dLa, uLa'⟩ := FF 35 (by decide)
  have uLa : Fun K "are_laid_right" "are_laid_right" sLa (ga K "are_laid_right") dLa := uLa'
  have bLa := uLa.binds (ps := ["rules", "size", "low", "row"]) fun _ _ _ _ _ _ us hl => match us, hl with | [_, _, _, _], _ => rfl
  have gLa : mg "are_laid_right" = some (.ref (ga K "are_laid_right")) := g 35 (by decide)
  obtain ⟨dIr, uIr'⟩ := FF 36 (by decide)
  have uIr : Fun K "is_right" "is_right" sIr (ga K "is_right") dIr := uIr'
  have bIr := uIr.binds (ps := ["rules", "size", "low", "row"]) fun _ _ _ _ _ _ us hl => match us, hl with | [_, _, _, _], _ => rfl
  have gIr : mg "is_right" = some (.ref (ga K "is_right")) := g 36 (by decide)
  obtain ⟨dRp, uRp'⟩ := FF 37 (by decide)
  have uRp : Fun K "is_right_page" "is_right_page" sRp (ga K "is_right_page") dRp := uRp'
  have bRp := uRp.binds (ps := ["rules", "page"]) fun _ _ _ _ _ _ us hl => match us, hl with | [_, _], _ => rfl
  have gRp : mg "is_right_page" = some (.ref (ga K "is_right_page")) := g 37 (by decide)
  obtain ⟨dHs, uHs'⟩ := FF 38 (by decide)
  have uHs : Fun K "is_held_slot" "is_held_slot" sHs (ga K "is_held_slot") dHs := uHs'
  have bHs := uHs.binds (ps := ["row", "number"]) fun _ _ _ _ _ _ us hl => match us, hl with | [_, _], _ => rfl
  have gHs : mg "is_held_slot" = some (.ref (ga K "is_held_slot")) := g 38 (by decide)
  obtain ⟨dHa, uHa'⟩ := FF 39 (by decide)
  have uHa : Fun K "is_handed" "is_handed" sHa (ga K "is_handed") dHa := uHa'
  have bHa := uHa.binds (ps := ["kind", "row", "handed"]) fun _ _ _ _ _ _ us hl => match us, hl with | [_, _, _], _ => rfl
  have gHa : mg "is_handed" = some (.ref (ga K "is_handed")) := g 39 (by decide)
  obtain ⟨dHl, uHl'⟩ := FF 40 (by decide)
  have uHl : Fun K "handed_length" "handed_length" sHl (ga K "handed_length") dHl := uHl'
  have bHl := uHl.binds (ps := ["kind", "handed"]) fun _ _ _ _ _ _ us hl => match us, hl with | [_, _], _ => rfl
  have gHl : mg "handed_length" = some (.ref (ga K "handed_length")) := g 40 (by decide)
  obtain ⟨dHo, uHo'⟩ := FF 41 (by decide)
  have uHo : Fun K "handed_own" "handed_own" sHo (ga K "handed_own") dHo := uHo'
  have bHo := uHo.binds (ps := ["kind", "handed"]) fun _ _ _ _ _ _ us hl => match us, hl with | [_, _], _ => rfl
  have gHo : mg "handed_own" = some (.ref (ga K "handed_own")) := g 41 (by decide)
  obtain ⟨dLn, uLn'⟩ := FF 42 (by decide)
  have uLn : Fun K "length_at" "length_at" sLn (ga K "length_at") dLn := uLn'
  have bLn := uLn.binds (ps := ["row", "slot"]) fun _ _ _ _ _ _ us hl => match us, hl with | [_, _], _ => rfl
  have gLn : mg "length_at" = some (.ref (ga K "length_at")) := g 42 (by decide)
  obtain ⟨dOs, uOs'⟩ := FF 43 (by decide)
  have uOs : Fun K "others_stay" "others_stay" sOs (ga K "others_stay") dOs := uOs'
  have bOs := uOs.binds (ps := ["before", "after", "own"]) fun _ _ _ _ _ _ us hl => match us, hl with | [_, _, _], _ => rfl
  have gOs : mg "others_stay" = some (.ref (ga K "others_stay")) := g 43 (by decide)
  obtain ⟨dLo, uLo'⟩ := FF 44 (by decide)
  have uLo : Fun K "leaves_owed" "leaves_owed" sLo (ga K "leaves_owed") dLo := uLo'
  have bLo := uLo.binds (ps := ["kind", "rules", "page", "handed", "desk"]) fun _ _ _ _ _ _ us hl => match us, hl with | [_, _, _, _, _], _ => rfl
  have gLo : mg "leaves_owed" = some (.ref (ga K "leaves_owed")) := g 44 (by decide)
  obtain ⟨dBd, uBd'⟩ := FF 45 (by decide)
  have uBd : Fun K "breaks_done" "breaks_done" sBd (ga K "breaks_done") dBd := uBd'
  have bBd := uBd.binds (ps := ["kind", "rules", "page", "handed", "desk"]) fun _ _ _ _ _ _ us hl => match us, hl with | [_, _, _, _, _], _ => rfl
  have gBd : mg "breaks_done" = some (.ref (ga K "breaks_done")) := g 45 (by decide)
  obtain ⟨dBp, uBp'⟩ := FF 46 (by decide)
  have uBp : Fun K "broken_promises" "broken_promises" sBp (ga K "broken_promises") dBp := uBp'
  have bBp := uBp.binds (ps := ["kind", "rules", "page", "handed", "desk", "ended"]) fun _ _ _ _ _ _ us hl => match us, hl with | [_, _, _, _, _, _], _ => rfl
  have gBp : mg "broken_promises" = some (.ref (ga K "broken_promises")) := g 46 (by decide)
  obtain ⟨dPf, uPf'⟩ := FF 47 (by decide)
  have uPf : Fun K "play_forms" "play_forms" sPf (ga K "play_forms") dPf := uPf'
  have bPf := uPf.binds (ps := ["forms", "jumps", "desk"]) fun _ _ _ _ _ _ us hl => match us, hl with | [_, _, _], _ => rfl
  have gPf : mg "play_forms" = some (.ref (ga K "play_forms")) := g 47 (by decide)
  obtain ⟨dlB, ulB'⟩ := FF 48 (by decide)
  have ulB : Fun K "_law_bag" "_law_bag" sBag (ga K "_law_bag") dlB := ulB'
  have blB := ulB.binds (ps := ["_law_script"]) fun _ _ _ _ _ _ us hl => match us, hl with | [_], _ => rfl
  have glB : mg "_law_bag" = some (.ref (ga K "_law_bag")) := g 48 (by decide)
  obtain ⟨dlD, ulD'⟩ := FF 49 (by decide)
  have ulD : Fun K "_law_draw" "_law_draw" sDraw (ga K "_law_draw") dlD := ulD'
  have blD := ulD.binds (ps := ["_law_bag_here", "_law_limit"]) fun _ _ _ _ _ _ us hl => match us, hl with | [_, _], _ => rfl
  have glD : mg "_law_draw" = some (.ref (ga K "_law_draw")) := g 49 (by decide)
  obtain ⟨dlR, ulR'⟩ := FF 50 (by decide)
  have ulR : Fun K "_law_room" "_law_room" sLr (ga K "_law_room") dlR := ulR'
  have blR := ulR.binds (ps := ["_law_unit", "_law_length"]) fun _ _ _ _ _ _ us hl => match us, hl with | [_, _], _ => rfl
  have glR : mg "_law_room" = some (.ref (ga K "_law_room")) := g 50 (by decide)
  obtain ⟨dlP, ulP'⟩ := FF 51 (by decide)
  have ulP : Fun K "_law_drawn_page" "_law_drawn_page" sDp (ga K "_law_drawn_page") dlP := ulP'
  have blP := ulP.binds (ps := ["_law_bag_here", "_law_told_here", "_law_size"]) fun _ _ _ _ _ _ us hl => match us, hl with | [_, _, _], _ => rfl
  have glP : mg "_law_drawn_page" = some (.ref (ga K "_law_drawn_page")) := g 51 (by decide)
  obtain ⟨dlI, ulI'⟩ := FF 52 (by decide)
  have ulI : Fun K "_law_is_right" "_law_is_right" sIs (ga K "_law_is_right") dlI := ulI'
  have blI := ulI.binds (ps := ["_law_told_here", "_law_page"]) fun _ _ _ _ _ _ us hl => match us, hl with | [_, _], _ => rfl
  have glI : mg "_law_is_right" = some (.ref (ga K "_law_is_right")) := g 52 (by decide)
  obtain ⟨dlS, ulS'⟩ := FF 53 (by decide)
  have ulS : Fun K "_law_spoiled" "_law_spoiled" sSp5 (ga K "_law_spoiled") dlS := ulS'
  have blS := ulS.binds (ps := ["_law_bag_here", "_law_page"]) fun _ _ _ _ _ _ us hl => match us, hl with | [_, _], _ => rfl
  have glS : mg "_law_spoiled" = some (.ref (ga K "_law_spoiled")) := g 53 (by decide)
  obtain ⟨dlT, ulT'⟩ := FF 54 (by decide)
  have ulT : Fun K "_law_told" "_law_told" sTd (ga K "_law_told") dlT := ulT'
  have blT := ulT.binds (ps := ["_law_code", "_law_page", "_law_handed_here"]) fun _ _ _ _ _ _ us hl => match us, hl with | [_, _, _], _ => rfl
  have glT : mg "_law_told" = some (.ref (ga K "_law_told")) := g 54 (by decide)
  obtain ⟨dlW, ulW'⟩ := FF 55 (by decide)
  have ulW : Fun K "law" "law" sLaw (ga K "law") dlW := ulW'
  have blW := ulW.binds (ps := ["_law_script"]) fun _ _ _ _ _ _ us hl => match us, hl with | [_], _ => rfl
  have glW : mg "law" = some (.ref (ga K "law")) := g 55 (by decide)
  have f_len : mg "len" = none := free_ok X G (fact 0 rfl)
  have f_int : mg "int" = none := free_ok X G (fact 1 rfl)
  have f_list : mg "list" = none := free_ok X G (fact 2 rfl)
  have f_tuple : mg "tuple" = none := free_ok X G (fact 3 rfl)
  have f_enumerate : mg "enumerate" = none := free_ok X G (fact 4 rfl)
  have f_isinstance : mg "isinstance" = none := free_ok X G (fact 5 rfl)
  have f_dict : mg "dict" = none := free_ok X G (fact 6 rfl)
  have f_min : mg "min" = none := free_ok X G (fact 7 rfl)
  have f_max : mg "max" = none := free_ok X G (fact 8 rfl)
  have f_super : mg "super" = none := free_ok X G (fact 9 rfl)
  have f_range : mg "range" = none := free_ok X G (fact 10 rfl)
  have f_bool : mg "bool" = none := free_ok X G (fact 11 rfl)
  have f_sum : mg "sum" = none := free_ok X G (fact 12 rfl)
  have f_sorted : mg "sorted" = none := free_ok X G (fact 13 rfl)
  have i_MOST_FIGURES : ∃ t, mg "MOST_FIGURES" = some (.int 30 t) := int_ok X G (fact 14 rfl)
  have i_MOST_TERMS : ∃ t, mg "MOST_TERMS" = some (.int 4 t) := int_ok X G (fact 15 rfl)
  have i_MOST_PARTS : ∃ t, mg "MOST_PARTS" = some (.int 4 t) := int_ok X G (fact 16 rfl)
  have i_MOST_SETTINGS : ∃ t, mg "MOST_SETTINGS" = some (.int 3 t) := int_ok X G (fact 17 rfl)
  have i_MOST_DIVISIONS : ∃ t, mg "MOST_DIVISIONS" = some (.int 2 t) := int_ok X G (fact 18 rfl)
  have i_MOST_LINES : ∃ t, mg "MOST_LINES" = some (.int 40 t) := int_ok X G (fact 19 rfl)
  have i_MOST_IFS : ∃ t, mg "MOST_IFS" = some (.int 7 t) := int_ok X G (fact 20 rfl)
  have a_ENDING : mg "ENDING" = some (.ref (ga K "ENDING")) := glo_ok X G (fact 21 rfl)
  have a_PLACED : mg "PLACED" = some (.ref (ga K "PLACED")) := glo_ok X G (fact 22 rfl)
  have a_REGISTERS : mg "REGISTERS" = some (.ref (ga K "REGISTERS")) := glo_ok X G (fact 23 rfl)
  have a_FIELDS : mg "FIELDS" = some (.ref (ga K "FIELDS")) := glo_ok X G (fact 24 rfl)
  have a_OWN : mg "OWN" = some (.ref (ga K "OWN")) := glo_ok X G (fact 25 rfl)
  have a_NAMES : mg "NAMES" = some (.ref (ga K "NAMES")) := glo_ok X G (fact 26 rfl)
  have a_PHRASES : mg "PHRASES" = some (.ref (ga K "PHRASES")) := glo_ok X G (fact 27 rfl)
  have a_PLAIN : mg "PLAIN" = some (.ref (ga K "PLAIN")) := glo_ok X G (fact 28 rfl)
  have a_KINDS : mg "KINDS" = some (.ref (ga K "KINDS")) := glo_ok X G (fact 29 rfl)
  have a_PROMISES : mg "PROMISES" = some (.ref (ga K "PROMISES")) := glo_ok X G (fact 30 rfl)
  have a_PageCode : mg "PageCode" = some (.ref (ga K "PageCode")) := glo_ok X G (fact 31 rfl)
  have a_PageRules : mg "PageRules" = some (.ref (ga K "PageRules")) := glo_ok X G (fact 32 rfl)
  have a_PageDesk : mg "PageDesk" = some (.ref (ga K "PageDesk")) := glo_ok X G (fact 33 rfl)
  have a_PagePlay : mg "PagePlay" = some (.ref (ga K "PagePlay")) := glo_ok X G (fact 34 rfl)
  have a_HeldError : mg "HeldError" = some (.ref (ga K "HeldError")) := glo_ok X G (fact 35 rfl)
  have tK : ∀ t ∈ tabL, ∃ es n, KDict K w (ga K t.1) es n := fun t h => tab_ok ht h
  obtain ⟨es_PHRASES, n_PHRASES, D_PHRASES⟩ := tK ("PHRASES", ["there is empty", "own is last"]) (List.mem_of_getElem? (i := 0) rfl)
  obtain ⟨es_PLAIN, n_PLAIN, D_PLAIN⟩ := tK ("PLAIN", ["else", "end", "no", "quit", "pack", "clear own", "take empty", "take next", "slots = slots + 1", "slots = slots - 1"]) (List.mem_of_getElem? (i := 1) rfl)
  have t_ENDING : KTup K (ga K "ENDING") (endL.map V.str) := tupAt_ok (ex 4 rfl)
  have t_PLACED : KTup K (ga K "PLACED") (placedL.map V.str) := tupAt_ok (ex 5 rfl)
  have t_REGISTERS : KTup K (ga K "REGISTERS") (regsL.map V.str) := tupAt_ok (ex 6 rfl)
  have t_FIELDS : KTup K (ga K "FIELDS") (fieldsL.map V.str) := tupAt_ok (ex 7 rfl)
  have t_OWN : KTup K (ga K "OWN") (ownL.map V.str) := tupAt_ok (ex 8 rfl)
  have t_NAMES : KTup K (ga K "NAMES") (namesP.map V.str) := tupAt_ok (ex 9 rfl)
  have t_KINDS : KTup K (ga K "KINDS") (kinds4.map V.str) := tupAt_ok (ex 10 rfl)
  have t_PROMISES : KTup K (ga K "PROMISES") (promL.map V.str) := tupAt_ok (ex 11 rfl)
  have e_PLAIN := entB_ok (l := plainL) (a := ga K "PLAIN") (K := K) (ex 12 rfl)
  have p_PHRASES : EsIs es_PHRASES.toList phrP := esB_ok D_PHRASES (ex 13 rfl)
  have E_BadKind : BErr PR K mg "BadKind" "BadKind.__init__" stKind ["kind"] (ga K "BadKind") (ma K (ga K "BadKind") "__init__") := ⟨(cf 0 (by decide)).T, form_BadKind, PySem.W.mg_of X G (cf 0 (by decide)).ns⟩
  have E_BadLine : BErr PR K mg "BadLine" "BadLine.__init__" stLine ["line"] (ga K "BadLine") (ma K (ga K "BadLine") "__init__") := ⟨(cf 1 (by decide)).T, form_BadLine, PySem.W.mg_of X G (cf 1 (by decide)).ns⟩
  have E_Refused : BErr PR K mg "Refused" "Refused.__init__" stRef ["line"] (ga K "Refused") (ma K (ga K "Refused") "__init__") := ⟨(cf 2 (by decide)).T, form_Refused, PySem.W.mg_of X G (cf 2 (by decide)).ns⟩
  have E_BadRule : BErr PR K mg "BadRule" "BadRule.__init__" (inClass (top 5) 0) ["what"] (ga K "BadRule") (ma K (ga K "BadRule") "__init__") := ⟨(cf 3 (by decide)).T, form_BadRule, PySem.W.mg_of X G (cf 3 (by decide)).ns⟩
  have E_BadSize : BErr PR K mg "BadSize" "BadSize.__init__" (inClass (top 6) 0) ["size"] (ga K "BadSize") (ma K (ga K "BadSize") "__init__") := ⟨(cf 4 (by decide)).T, form_BadSize, PySem.W.mg_of X G (cf 4 (by decide)).ns⟩
  have E_BadPage : BErr PR K mg "BadPage" "BadPage.__init__" (inClass (top 7) 0) ["page"] (ga K "BadPage") (ma K (ga K "BadPage") "__init__") := ⟨(cf 5 (by decide)).T, form_BadPage, PySem.W.mg_of X G (cf 5 (by decide)).ns⟩
  have E_BadHanded : BErr PR K mg "BadHanded" "BadHanded.__init__" (inClass (top 8) 0) ["handed"] (ga K "BadHanded") (ma K (ga K "BadHanded") "__init__") := ⟨(cf 6 (by decide)).T, form_BadHanded, PySem.W.mg_of X G (cf 6 (by decide)).ns⟩
  have E_TooMany : BErr PR K mg "TooMany" "TooMany.__init__" stMany ["what", "many", "most"] (ga K "TooMany") (ma K (ga K "TooMany") "__init__") := ⟨(cf 7 (by decide)).T, form_TooMany, PySem.W.mg_of X G (cf 7 (by decide)).ns⟩
  have M_PageCode : Mk K (ga K "PageCode") (ma K (ga K "PageCode") "__init__") := mkr_ok (fact 44 rfl)
  have C_PageCode : Cls K (ga K "PageCode") := cls_ok (fact 36 rfl)
  have N_PageCode : ∀ f ∈ (["kind", "rules", "text", "rows", "forms", "jumps", "answers"] : List Str), NoAttr K (ga K "PageCode") f := fun f hf => by
    rcases List.mem_cons.mp hf with e | hf
    · rw [e]; exact noat_ok (fact 37 rfl)
    rcases List.mem_cons.mp hf with e | hf
    · rw [e]; exact noat_ok (fact 38 rfl)
    rcases List.mem_cons.mp hf with e | hf
    · rw [e]; exact noat_ok (fact 39 rfl)
    rcases List.mem_cons.mp hf with e | hf
    · rw [e]; exact noat_ok (fact 40 rfl)
    rcases List.mem_cons.mp hf with e | hf
    · rw [e]; exact noat_ok (fact 41 rfl)
    rcases List.mem_cons.mp hf with e | hf
    · rw [e]; exact noat_ok (fact 42 rfl)
    rw [List.mem_singleton.mp hf]; exact noat_ok (fact 43 rfl)
  have M_PageRules : Mk K (ga K "PageRules") (ma K (ga K "PageRules") "__init__") := mkr_ok (fact 50 rfl)
  have C_PageRules : Cls K (ga K "PageRules") := cls_ok (fact 45 rfl)
  have N_PageRules : ∀ f ∈ (["head", "slot", "unit", "most"] : List Str), NoAttr K (ga K "PageRules") f := fun f hf => by
    rcases List.mem_cons.mp hf with e | hf
    · rw [e]; exact noat_ok (fact 46 rfl)
    rcases List.mem_cons.mp hf with e | hf
    · rw [e]; exact noat_ok (fact 47 rfl)
    rcases List.mem_cons.mp hf with e | hf
    · rw [e]; exact noat_ok (fact 48 rfl)
    rw [List.mem_singleton.mp hf]; exact noat_ok (fact 49 rfl)
  have M_PageDesk : Mk K (ga K "PageDesk") (ma K (ga K "PageDesk") "__init__") := mkr_ok (fact 65 rfl)
  have C_PageDesk : Cls K (ga K "PageDesk") := cls_ok (fact 51 rfl)
  have N_PageDesk : ∀ f ∈ (["rules", "size", "low", "holes", "slots", "ats", "lens", "own", "length", "registers", "laid", "spoilt", "is_changed"] : List Str), NoAttr K (ga K "PageDesk") f := fun f hf => by
    rcases List.mem_cons.mp hf with e | hf
    · rw [e]; exact noat_ok (fact 52 rfl)
    rcases List.mem_cons.mp hf with e | hf
    · rw [e]; exact noat_ok (fact 53 rfl)
    rcases List.mem_cons.mp hf with e | hf
    · rw [e]; exact noat_ok (fact 54 rfl)
    rcases List.mem_cons.mp hf with e | hf
    · rw [e]; exact noat_ok (fact 55 rfl)
    rcases List.mem_cons.mp hf with e | hf
    · rw [e]; exact noat_ok (fact 56 rfl)
    rcases List.mem_cons.mp hf with e | hf
    · rw [e]; exact noat_ok (fact 57 rfl)
    rcases List.mem_cons.mp hf with e | hf
    · rw [e]; exact noat_ok (fact 58 rfl)
    rcases List.mem_cons.mp hf with e | hf
    · rw [e]; exact noat_ok (fact 59 rfl)
    rcases List.mem_cons.mp hf with e | hf
    · rw [e]; exact noat_ok (fact 60 rfl)
    rcases List.mem_cons.mp hf with e | hf
    · rw [e]; exact noat_ok (fact 61 rfl)
    rcases List.mem_cons.mp hf with e | hf
    · rw [e]; exact noat_ok (fact 62 rfl)
    rcases List.mem_cons.mp hf with e | hf
    · rw [e]; exact noat_ok (fact 63 rfl)
    rw [List.mem_singleton.mp hf]; exact noat_ok (fact 64 rfl)
  have M_PagePlay : Mk K (ga K "PagePlay") (ma K (ga K "PagePlay") "__init__") := mkr_ok (fact 78 rfl)
  have C_PagePlay : Cls K (ga K "PagePlay") := cls_ok (fact 66 rfl)
  have N_PagePlay : ∀ f ∈ (["ended", "row", "slots", "low", "holes", "own", "written", "spoilt", "broken", "played", "tested"] : List Str), NoAttr K (ga K "PagePlay") f := fun f hf => by
    rcases List.mem_cons.mp hf with e | hf
    · rw [e]; exact noat_ok (fact 67 rfl)
    rcases List.mem_cons.mp hf with e | hf
    · rw [e]; exact noat_ok (fact 68 rfl)
    rcases List.mem_cons.mp hf with e | hf
    · rw [e]; exact noat_ok (fact 69 rfl)
    rcases List.mem_cons.mp hf with e | hf
    · rw [e]; exact noat_ok (fact 70 rfl)
    rcases List.mem_cons.mp hf with e | hf
    · rw [e]; exact noat_ok (fact 71 rfl)
    rcases List.mem_cons.mp hf with e | hf
    · rw [e]; exact noat_ok (fact 72 rfl)
    rcases List.mem_cons.mp hf with e | hf
    · rw [e]; exact noat_ok (fact 73 rfl)
    rcases List.mem_cons.mp hf with e | hf
    · rw [e]; exact noat_ok (fact 74 rfl)
    rcases List.mem_cons.mp hf with e | hf
    · rw [e]; exact noat_ok (fact 75 rfl)
    rcases List.mem_cons.mp hf with e | hf
    · rw [e]; exact noat_ok (fact 76 rfl)
    rw [List.mem_singleton.mp hf]; exact noat_ok (fact 77 rfl)
  have X_BadPage := exm_ok (fact 79 rfl)
  have X_BadHanded := exm_ok (fact 80 rfl)
  obtain ⟨dIn, uIn⟩ : ∃ fd, Fun K "__init__" "PageCode.__init__" sInit (ma K (ga K "PageCode") "__init__") fd := fun_of (meth 0 rfl rfl) (ex 14 rfl)
  have bIn := uIn.binds (ps := ["self", "kind", "rules", "text"]) fun _ _ _ _ _ _ us hl => match us, hl with | [_, _, _, _], _ => rfl
  obtain ⟨dPr, uPr⟩ : ∃ fd, FunD K "__init__" "PageRules.__init__" (defArgs sPR) (defBody sPR) (defScope sPR) [.non] [] (ma K (ga K "PageRules") "__init__") fd := funD_of (fun z => nomatch z) (meth 1 rfl rfl) (ex 15 rfl)
  obtain ⟨dsPr, vsPr, bPr⟩ := uPr.binds1 (ps := ["self", "head", "slot", "unit", "most"]) 4 0 (fun z => nomatch z) rfl fun _ _ _ _ _ _ _ us its h1 h2 => match us, its, h1, h2 with | [_, _, _, _], [_], _, _ => ⟨_, rfl, rfl⟩
  have baPr : Binds K dPr ["self", "head", "slot", "unit", "most"] [] := by
    obtain ⟨dsx, vsx, bx⟩ := uPr.binds1 (ps := ["self", "head", "slot", "unit", "most"]) 5 1 (fun z => nomatch z) rfl fun _ _ _ _ _ _ _ us its h1 h2 => match us, its, h1, h2 with | [_, _, _, _, _], [_], _, _ => ⟨_, rfl, rfl⟩
    cases vsx
    exact bx
  obtain ⟨dIu, uIu⟩ : ∃ fd, Fun K "in_use" "PageRules.in_use" sIu (ma K (ga K "PageRules") "in_use") fd := fun_of (meth 2 rfl rfl) (ex 16 rfl)
  have bIu := uIu.binds (ps := ["self", "size"]) fun _ _ _ _ _ _ us hl => match us, hl with | [_, _], _ => rfl
  obtain ⟨dNx, uNx⟩ : ∃ fd, Fun K "next_in_use" "PageRules.next_in_use" sNx (ma K (ga K "PageRules") "next_in_use") fd := fun_of (meth 3 rfl rfl) (ex 17 rfl)
  have bNx := uNx.binds (ps := ["self", "size"]) fun _ _ _ _ _ _ us hl => match us, hl with | [_, _], _ => rfl
  obtain ⟨dPd, uPd⟩ : ∃ fd, Fun K "__init__" "PageDesk.__init__" sPd (ma K (ga K "PageDesk") "__init__") fd := fun_of (meth 4 rfl rfl) (ex 18 rfl)
  have bPd := uPd.binds (ps := ["self", "rules", "page", "holes", "own", "length"]) fun _ _ _ _ _ _ us hl => match us, hl with | [_, _, _, _, _, _], _ => rfl
  obtain ⟨dPp, uPp⟩ : ∃ fd, Fun K "__init__" "PagePlay.__init__" sPp (ma K (ga K "PagePlay") "__init__") fd := fun_of (meth 5 rfl rfl) (ex 19 rfl)
  have bPp := uPp.binds (ps := ["self", "ended", "desk", "lines", "sides", "broken"]) fun _ _ _ _ _ _ us hl => match us, hl with | [_, _, _, _, _, _], _ => rfl
  have xPl := ba (ex 20 rfl)
  obtain ⟨dPl, uPl⟩ : ∃ fd, FunD K "play_page" "play_page" (defArgs sPg5) (defBody sPg5) (defScope sPg5) [.non] [] (ga K "play_page") fd := funD_of (fun z => nomatch z) (meth 6 rfl rfl) xPl.1
  have baPl : Binds K dPl ["code", "page", "handed"] [] := by
    obtain ⟨dsx, vsx, bx⟩ := uPl.binds1 (ps := ["code", "page", "handed"]) 3 1 (fun z => nomatch z) rfl fun _ _ _ _ _ _ _ us its h1 h2 => match us, its, h1, h2 with | [_, _, _], [_], _, _ => ⟨_, rfl, rfl⟩
    cases vsx
    exact bx
  have gPl : mg "play_page" = some (.ref (ga K "play_page")) := PySem.W.mg_of X G (eqO_ok xPl.2)
  have e := hfa.symm.trans glW
  cases e
  obtain ⟨oc, od, kV, doc, pm, an, cdv, ct, osl, efd, lk, hcd⟩ := ulW.ex
  refine ⟨dlW, fun s v => by rw [efd]; exact .of_eq rfl, fun base _ _ => ?_⟩
  have T : Glo mg := ⟨f_len, f_int, i_MOST_FIGURES, i_MOST_TERMS, i_MOST_PARTS, f_enumerate, f_tuple⟩
  have TB : Glob mg := ⟨f_len, f_int, f_list⟩
  have TV : Gv mg := ⟨f_len, f_int, f_bool, f_tuple, f_list, f_isinstance, f_sum, f_sorted, f_range, f_enumerate, f_max, f_min⟩
  have TN : GloN K mg := ⟨⟨_, a_NAMES, t_NAMES⟩⟩
  have TS : GloS3 K mg := ⟨⟨_, a_REGISTERS, t_REGISTERS⟩, ⟨_, a_FIELDS, t_FIELDS⟩, ⟨_, a_OWN, t_OWN⟩⟩
  have TM : GloM mg := ⟨i_MOST_DIVISIONS, i_MOST_SETTINGS⟩
  have TP : GloPc K mg := ⟨⟨_, a_PLACED, t_PLACED⟩⟩
  have TD : GloPl K w mg := ⟨⟨_, es_PLAIN, n_PLAIN, a_PLAIN, D_PLAIN, e_PLAIN⟩, ⟨_, es_PHRASES, n_PHRASES, a_PHRASES, D_PHRASES, p_PHRASES⟩, f_dict⟩
  have EN : ∃ p, mg "ENDING" = some (.ref p) ∧ KTup K p (endL.map V.str) := ⟨_, a_ENDING, t_ENDING⟩
  have PM : GloPm K mg (ga K "PROMISES") := ⟨a_PROMISES, t_PROMISES⟩
  have sNu : FNum K mg _ dNu := ⟨uNu, bNu, gNu⟩
  have sTe : FTerm K mg _ dTe := ⟨uTe, bTe, gTe⟩
  have sSu : FSum K mg _ dSu := ⟨uSu, bSu, gSu⟩
  have oSu : FnOk PR w K mg base CX0 3 _ dSu ["words", "names"] (spSum K) := ok_sum uSu sNu sTe T
  have oTs : FnOk PR w K mg base CX0 4 _ dTs ["words", "names", "phrases"] (spTest K) := ok_test uTs sNu sTe ⟨uPa, bPa, gPa⟩ ⟨uPs, bPs, gPs⟩ T
  have oSe : FnOk PR w K mg base CX0 5 _ dSe ["target", "words"] (spSett K) := ok_sett uSe ⟨uRe, bRe, gRe⟩ sNu sTe sSu T TN TS
  have oPg : FnOk PR w K mg base CX0 6 _ dPg ["words"] (spRead K pageD) := ok_pg uPg ⟨uTs, bTs, gTs⟩ sSu ⟨uSe, bSe, gSe⟩ oTs oSu oSe T TN TD
  have TC : GloC PR w K mg base := ⟨⟨_, a_KINDS, t_KINDS⟩, i_MOST_LINES, i_MOST_IFS, ⟨_, gPg, ⟨⟨dPg, oPg, bPg⟩, uPg.kp, page_read⟩⟩⟩
  have oFo : FnOk PR w K mg base (CX PR w) 7 _ dFo ["rows", "read_line"] (spForms PR w K mg base 6 (ga K "BadLine")) := ok_forms (n := 6) (by decide) uFo ⟨uSp, bSp, gSp⟩ ⟨uCl, bCl, gCl⟩ E_BadLine f_super T
  have oCo : FnOk PR w K mg base (CX PR w) 8 _ dCo ["text", "read_line", "most_lines", "most_ifs"] (spCode PR w K mg base 6 (ga K "BadLine") (ga K "TooMany")) := ok_code (n := 6) (by decide) uCo ⟨uFo, bFo, gFo⟩ ⟨uLi, bLi, gLi⟩ oFo E_TooMany f_super T
  have oWy : FnOk PR w K mg base CX0 2 _ dWy ["forms", "jumps"] (spWays K) := ok_ways uWy ⟨uSt, bSt, gSt⟩ T EN
  have oWb : FnOk PR w K mg base CX0 3 _ dWb ["forms", "way"] (spWb K) := ok_wb uWb ⟨uBl, bBl, gBl⟩ ⟨uCn, bCn, gCn⟩ ⟨uMo, bMo, gMo⟩ ⟨uAe, bAe, gAe⟩ TM TP T
  have oLk : FnOk PR w K mg base CX0 1 _ dLk ["row"] spLk := ok_lk uLk
  have oLe : FnOk PR w K mg base CX0 4 _ dLe ["kind", "rows", "forms", "jumps"] (spLeast K) := ok_least uLe ⟨uLk, bLk, gLk⟩ ⟨uWb, bWb, gWb⟩ ⟨uWy, bWy, gWy⟩ oLk oWb oWy T f_min
  have oIn : FnOk PR w K mg base (CX PR w) 9 _ dIn ["self", "kind", "rules", "text"] (spInit5 K (ga K "PageCode")) := ok_init5 uIn ⟨uCo, bCo, gCo⟩ ⟨uLe, bLe, gLe⟩ oCo oLe E_Refused E_BadKind f_super T TC ⟨C_PageCode, N_PageCode⟩
  have ORUL : ORul K (ga K "PageRules") := ⟨C_PageRules, N_PageRules⟩
  have ODK : ODk K (ga K "PageDesk") := ⟨C_PageDesk, N_PageDesk⟩
  have OPLY : OPl K (ga K "PagePlay") := ⟨C_PagePlay, N_PagePlay⟩
  have sWh : FWhole K mg _ dWh := ⟨uWh, bWh, gWh⟩
  have sFr : FFrom K mg _ dFr := ⟨uFr, bFr, gFr⟩
  have oWh : FnOk PR w K mg base CX0 1 _ dWh ["value"] spWhole := ok_whole uWh f_isinstance f_int f_bool
  have oFr : FnOk PR w K mg base CX0 2 _ dFr ["value", "least"] spFrom := ok_from uFr sWh oWh
  have oBe : FnOk PR w K mg base CX0 2 _ dBe ["value", "least", "most"] spBetw := ok_betw uBe sWh oWh
  have oWv : FnOk PR w K mg base CX0 1 _ dWh ["value"] (spWh K) := ok_wh uWh TV
  have oFv : FnOk PR w K mg base CX0 2 _ dFr ["value", "least"] (spFr K) := ok_fr uFr sWh oWv
  have oPr : FnOk PR w K mg base (CX PR w) 3 _ dPr ["self", "head", "slot", "unit", "most"] (spPR5 (ga K "PageRules")) := ok_pr5 uPr sFr ⟨uBe, bBe, gBe⟩ oFr oBe ORUL E_BadRule f_super
  have sRu : FRu K mg _ dRu := ⟨uRu, bRu, gRu⟩
  have oRu : FnOk PR w K mg base CX0 1 _ dRu ["number", "unit"] spRu := ok_ru uRu
  have sCs : FCs K mg _ dCs := ⟨uCs, bCs, gCs⟩
  have oCs : FnOk PR w K mg base (CX PR w) 3 _ dCs ["size"] spCs := ok_cs uCs sFr oFv E_BadSize f_super
  have oIu : FnOk PR w K mg base (CX PR w) 4 _ dIu ["self", "size"] (spIu (ga K "PageRules")) := ok_iu uIu sCs oCs ORUL
  have oNx : FnOk PR w K mg base (CX PR w) 4 _ dNx ["self", "size"] (spNx (ga K "PageRules")) := ok_nx uNx sCs oCs sRu oRu ORUL TV
  have MIU := meth_ok (fact 82 rfl)
  have MNX := meth_ok (fact 83 rfl)
  have sPi : IdL.FPa K mg _ dPi := ⟨uPi, bPi, gPi⟩
  have oPi : FnOk PR w K mg base CX0 2 _ dPi ["value"] (spPa K) := ok_pa uPi sWh oWv TV
  have sRc : IdL.FRe K mg _ dRc := ⟨uRc, bRc, gRc⟩
  have oRc : FnOk PR w K mg base CX0 3 _ dRc ["value"] (spRe K) := ok_re uRc sPi oPi
  have sTl : FTol K mg _ dTl := ⟨uTl, bTl, gTl⟩
  have oTl : FnOk PR w K mg base CX0 4 _ dTl ["page"] (spTol K) := ok_told uTl sWh oWv sFr oFv sRc oRc TV
  have sRo : IdL.FRo K mg _ dRo := ⟨uRo, bRo, gRo⟩
  have oRo : FnOk PR w K mg base CX0 2 _ dRo ["rules", "row"] (spRo (ga K "PageRules")) := ok_ro uRo sRu oRu ORUL TV
  have oLa : FnOk PR w K mg base CX0 2 _ dLa ["rules", "size", "low", "row"] (spLa (ga K "PageRules")) := ok_la uLa sRu oRu ORUL TV
  have sIr : IdL.FIr K mg _ dIr := ⟨uIr, bIr, gIr⟩
  have oIr : FnOk PR w K mg base CX0 3 _ dIr ["rules", "size", "low", "row"] (spIr (ga K "PageRules")) := ok_ir uIr ⟨uLa, bLa, gLa⟩ oLa ORUL TV
  have oRp : FnOk PR w K mg base CX0 5 _ dRp ["rules", "page"] (spRp K (ga K "PageRules")) := ok_rp uRp sTl oTl sIr oIr ORUL MIU bIu oIu
  have sHs : IdL.FHs K mg _ dHs := ⟨uHs, bHs, gHs⟩
  have oHs : FnOk PR w K mg base CX0 3 _ dHs ["row", "number"] (spHs K) := ok_hs uHs sFr oFv TV
  have oHa : FnOk PR w K mg base CX0 4 _ dHa ["kind", "row", "handed"] (spHa K) := ok_ha uHa sFr oFv sHs oHs sPi oPi
  have sHr : IdL.FHr K mg _ dHr := ⟨uHr, bHr, gHr⟩
  have oHr : FnOk PR w K mg base CX0 1 _ dHr ["desk", "slot"] (spHr (ga K "PageDesk")) := ok_hr uHr ODK
  have sRw : IdL.FRw K mg _ dRw := ⟨uRw, bRw, gRw⟩
  have oRw : FnOk PR w K mg base CX0 2 _ dRw ["desk"] (spRw (ga K "PageDesk")) := ok_rw uRw sHr oHr ODK TV
  have sWr : IdL.FWr K mg _ dWr := ⟨uWr, bWr, gWr⟩
  have oWr : FnOk PR w K mg base CX0 1 _ dWr ["desk"] (spWr (ga K "PageDesk")) := ok_wr uWr ODK
  have oPd : FnOk PR w K mg base CX0 1 _ dPd ["self", "rules", "page", "holes", "own", "length"] (spPd (ga K "PageDesk")) := ok_pd uPd ODK TV
  have oHl : FnOk PR w K mg base CX0 1 _ dHl ["kind", "handed"] spHl := ok_hl uHl
  have oHo : FnOk PR w K mg base CX0 1 _ dHo ["kind", "handed"] spHo := ok_ho uHo
  have sLn : IdL.FLn K mg _ dLn := ⟨uLn, bLn, gLn⟩
  have oLn : FnOk PR w K mg base CX0 1 _ dLn ["row", "slot"] spLn := ok_ln uLn TV
  have oOs : FnOk PR w K mg base CX0 2 _ dOs ["before", "after", "own"] spOs := ok_os uOs sLn oLn TV
  have oLo : FnOk PR w K mg base CX0 3 _ dLo ["kind", "rules", "page", "handed", "desk"] (spLo (ga K "PageRules") (ga K "PageDesk")) := ok_lo uLo sRw oRw ⟨uOs, bOs, gOs⟩ oOs sRo oRo sLn oLn ODK
  have oBd : FnOk PR w K mg base CX0 4 _ dBd ["kind", "rules", "page", "handed", "desk"] (spBd (ga K "PageRules") (ga K "PageDesk")) := ok_bdn uBd ⟨uLo, bLo, gLo⟩ oLo sRw oRw sIr oIr sRo oRo ODK
  have oBp : FnOk PR w K mg base CX0 5 _ dBp ["kind", "rules", "page", "handed", "desk", "ended"] (spBp (ga K "PageRules") (ga K "PageDesk")) := ok_bp uBp ⟨uBd, bBd, gBd⟩ oBd PM ODK TV
  have oSt : FnOk PR w K mg base CX0 1 _ dSt ["forms", "jumps", "line"] (spSt0 K) := ok_st0 uSt TV
  have oPf : FnOk PR w K mg base CX0 2 _ dPf ["forms", "jumps", "desk"] (spPf K) := ok_pf0 uPf ⟨uSt, bSt, gSt⟩ oSt TV
  have oPp : FnOk PR w K mg base CX0 3 _ dPp ["self", "ended", "desk", "lines", "sides", "broken"] (spPp (ga K "PagePlay") (ga K "PageDesk")) := ok_pp uPp sRw oRw sWr oWr OPLY ODK TV
  have oPl : FnOk PR w K mg base (CX PR w) 6 _ dPl ["code", "page", "handed"] (spPlay K (ga K "PageCode") (ga K "PageRules") (ga K "PagePlay") (ga K "BadPage") (ga K "BadHanded")) := ok_pgp uPl ⟨uRp, bRp, gRp⟩ oRp ⟨uHa, bHa, gHa⟩ oHa ⟨uHo, bHo, gHo⟩ oHo ⟨uHl, bHl, gHl⟩ oHl sRo oRo ⟨uPf, bPf, gPf⟩ oPf ⟨uBp, bBp, gBp⟩ oBp M_PageDesk oPd a_PageDesk bPd M_PagePlay oPp a_PagePlay bPp E_BadPage E_BadHanded f_super ⟨C_PageCode, N_PageCode⟩
  have sD : FDw K mg _ dlD := ⟨ulD, blD, glD⟩
  have oD : FnOk PR w K mg base CX0 1 _ dlD ["_law_bag_here", "_law_limit"] spDrawL := ok_drawL ulD TB
  have oLr : FnOk PR w K mg base CX0 1 _ dlR ["_law_unit", "_law_length"] spLr := ok_lr ulR TV
  have oIs : FnOk PR w K mg base CX0 2 _ dlI ["_law_told_here", "_law_page"] spIs := ok_is ulI ⟨ulR, blR, glR⟩ oLr TV
  have oDp : FnOk PR w K mg base CX0 2 _ dlP ["_law_bag_here", "_law_told_here", "_law_size"] spDp := ok_dp ulP sD oD TV
  have oSp : FnOk PR w K mg base CX0 2 _ dlS ["_law_bag_here", "_law_page"] spSp5 := ok_sp5 ulS sD oD TV
  have oTd : FnOk PR w K mg base CX0 7 _ dlT ["_law_code", "_law_page", "_law_handed_here"] (spTd K (ga K "PageCode") (ga K "PageRules")) := ok_td ulT oPl baPl gPl uPl.kp OPLY E_BadPage E_BadHanded ⟨X_BadPage, exm_ok (fact 81 rfl), X_BadHanded⟩
  exact ok_law ulW ⟨ulB, blB, glB⟩ (ok_bagL ulB TB) sD oD M_PageRules oPr a_PageRules baPr ORUL M_PageCode oIn a_PageCode bIn MNX oNx bNx ⟨ulP, blP, glP⟩ oDp ⟨ulS, blS, glS⟩ oSp ⟨ulI, blI, glI⟩ oIs ⟨ulT, blT, glT⟩ oTd TV
end IdL
open PySem PySem.W PySem.Calls PyProof.Rows
set_option maxHeartbeats 0 in
theorem PySem.Challenge.cw_heldplaces_k05_pages_refused_holds : PySem.Challenge.rw_heldplaces_k05_pages_refused.Holds := by
  w_on; o_law
  refine HandSHeadRun.head_any (r := IdL.RR) (q := view IdL.RR.prog [124]) (H := IdL.hkL) (ob := Hd.obL IdL.adsL IdL.exK IdL.fvK IdL.tabL) (M := 20000) (loose := IdL.looseL) (d := HandSHeadRun.topDef IdL.RR.prog 124) (kwd := []) Hd.obL_eq
    (by kernel_rfl) (fun s => by kernel_rfl) IdL.run (by kernel_rfl) (by kernel_rfl) (by kernel_rfl) (by rfl) (by first | assumption | decide +kernel) (by decide +kernel) ⟨rfl, rfl, rfl, rfl, rfl, by decide +kernel⟩ ?hw ?hc
  case hw => w_witness2
  case hc =>
    refine L2.walk_ofE (l := PySem.Challenge.rw_heldplaces_k05_pages_refused) (n := 63) (k := 11) (x := "_law_script") (CX := L2.CX0) rfl (by decide) (by kernel_rfl) ⟨rfl, by decide, by decide⟩ ?F (fun _ _ _ _ z => z)
    intro w mg fa h Y G hmg0
    obtain ⟨K, KX, c1, c2, c3⟩ := Y
    have hmg : mg ("law" : PySem.Str) = some (.ref fa) := by
      have e : (HandSHeadRun.topDef IdL.RR.prog 124).name = ("law" : PySem.Str) := by kernel_rfl
      rw [← e]
      exact hmg0
    obtain ⟨fd, hb, hF⟩ := IdL.allL (w := w) KX G hmg c1 c2 c3
    exact ⟨K, fd, IdL.spLaw K, KX, hb, fun H a ns hl _ hS => ⟨a, ns, rfl, hS, hl, fun _ => rfl⟩, hF⟩
