import PyProof.Rows.All
import Wide.All
import OpenK.AllK
import Wide.FinOn
import HandS.HeadHook1
import HandS.HeadHook2
import HandS.HeadHook3
import HandS.Property
import HandS.ExcField
import KE.KStateDown
import HandS.Head0
import HandS.Head1
import HandS.Head2
import HandS.HeadEnd
import HandS.Words
import PyProof.EqAt
import PyProof.EqKinds
import PyProof.TupleCall
import KE.KExcSuper
import HandS.Base
import HandS.Call
import HandS.List
import HandS.Dict
import HandS.More
import HandS.Exc
import HandS.ExcInit
import HandS.Codes
import HandS.ExcSuper
import HandS.Strs
import HandS.SetKeys
import HandS.ForMost
import HandS.IsInst
import HandS.ForExc
import HandS.Conv
import HandS.StrMore
import HandS.DictComp
import HandS.TupAny
import HandS.TupMul
import HandS.Zip
import HandS.FStr
import HandS.Steps
import HandS.Walk
import HandS.Wide
import HandS.WideMore
import HandS.Deep
import HandS.Text
import HandS.Sort
import HandS.DeepEq
import HandS.OwnEq
import HandS.ExcOwn
import HandS.ExcIs
import HandS.DictEq
import HandS.RaiseMore
import HandS.ExcCtx
import KE.KDictCopyH
import HandS.Iter
import KE.KDictWalk
import KE.KDictList
import HandS.Star
import HandS.Comp
import HandS.Set
import HandS.SetTxt0
import KE.GoesEnum
import HandS.Rev
import HandS.Style
import PySem.Challenge.RW_standsfor_k19_names_in_straight_rows
set_option Elab.async false
set_option linter.all false
set_option maxRecDepth 100000
set_option maxHeartbeats 4000000
/-! what a head's Hook asks of the heap: ahead of all else, for the top's run wants the memory -/
namespace G9
open PySem PySem.Spec PyProof.Rows L2 He
structure FnQ where
  addr : PySem.W.Frag → Addr
  name : Str
  qual : Str
  params : Arguments
  body : List Stmt
  scope : Scope
  clo : List Str
abbrev FnS : Type := Option (Str × Str × Arguments × FuncBody × Scope × Addr × List Str × Addr)
def fnQ (K : PySem.W.Frag) (a : Addr) : FnS := match K.lookup a with
  | some ⟨_, _, .func fd, _⟩ => some (fd.name, fd.qualname, fd.params, fd.body, fd.scope, fd.globals, fd.closure.map (·.1), fd.builtins)
  | _ => none
def FnQ.val (d : FnQ) : FnS := some (d.name, d.qual, d.params, .stmts d.body, d.scope, mainGlobals, d.clo, builtinsNs)
def noneV : Value → Bool
  | .none => true
  | _ => false
def FnQ.ok (K : PySem.W.Frag) (d : FnQ) : Bool := PySem.W.keepIn K (.ref (d.addr K)) && (match K.lookup (d.addr K) with
  | some ⟨_, _, .func fd, _⟩ => PySem.W.codeIn K fd.code d.qual && noneV fd.defaults
  | _ => false)
def tupA (K : PySem.W.Frag) (t : Addr) (vs : List V) : Bool := match K.lookup t with
  | some ⟨.type c, _, .seq its _, _⟩ => decide (c = "tuple") && (decide (its.size ≤ sizeLine) && relAll vs its.toList)
  | _ => false
def tabB (K : PySem.W.Frag) (p : Addr) (tab : List (Str × List Str)) : Bool := tab.all fun q => match PySem.W.nsIn K p q.1 with
  | some (some (.ref t)) => tupA K t (q.2.map V.str)
  | _ => false
def oB (a b : Option Bool) : Bool := decide (a = b)
end G9
namespace G17
open PySem PySem.Spec PyProof.Rows L2 He G9
/-- a def with keyword-only parameters: what stands for them -/
def kwB (K : PySem.W.Frag) (f : Addr) (kws : List (Str × V)) : Bool := match K.lookup f with
  | some ⟨_, _, .func fd, _⟩ => kwdB K fd.kwdefaults kws
  | _ => false
end G17
set_option Elab.async false
set_option linter.all false
set_option maxRecDepth 100000
set_option maxHeartbeats 4000000
/-! the row's statements; what the text writes down: tables, rows of words -/
namespace SF
open PySem PySem.Spec PyProof.Rows L2
def topS (i : Nat) : Stmt := PySem.Challenge.pw_standsfor_k19_names_in_straight_rows.main.body.getD i (.Pass ⟨0, 0, 0, 0⟩)
def tabS : List (Str × List Str) := [("word", ["name"]), ("none", []), ("name", ["name"]), ("me", []), ("field", ["field"]), ("fn", ["params", "function"]), ("new", ["class"])]
def tabC : List (Str × List Str) := [("call", ["simple", "things"]), ("ask", ["simple", "name", "things"]), ("parent", ["name", "things"])]
def tabT : List (Str × List Str) := [("same", ["simple", "simple"]), ("not", ["test"]), ("both", ["test", "test"]), ("either", ["test", "test"])]
def tabSt : List (Str × List Str) := [("let", ["name", "right"]), ("set", ["name", "right"]), ("keep", ["field", "right"]), ("do", ["right"]), ("print", ["simple"]), ("return", ["right"]), ("raise", ["right"]), ("if", ["test", "block", "block"]), ("while", ["test", "block"]), ("try", ["block", "name", "block"]), ("last", ["block", "block"])]
def stp : List Str := ["let", "set", "keep", "do", "return", "raise", "if", "try", "last"]
end SF
set_option Elab.async false
set_option linter.all false
set_option maxRecDepth 100000
set_option maxHeartbeats 0
/-! the Hook of the head -/
namespace HK
open PySem PySem.Spec PyProof.Rows L2 He G9
def getA (K : PySem.W.Frag) : Addr := match PySem.W.recIn K (ma K (ga K "Program") "classes") "property" with
  | some (.ref g :: _) => g
  | _ => 0
def recB (K : PySem.W.Frag) : Bool := match PySem.W.recIn K (ma K (ga K "Program") "classes") "property" with
  | some (.ref _ :: _) => true
  | _ => false
def fn0 : List FnQ := [⟨fun K => ga K "is_integer", "is_integer", "is_integer", defArgs (SF.topS 13), defBody (SF.topS 13), defScope (SF.topS 13), []⟩, ⟨fun K => ga K "is_name", "is_name", "is_name", defArgs (SF.topS 14), defBody (SF.topS 14), defScope (SF.topS 14), []⟩, ⟨fun K => ga K "is_names", "is_names", "is_names", defArgs (SF.topS 15), defBody (SF.topS 15), defScope (SF.topS 15), []⟩, ⟨fun K => ga K "is_name_dict", "is_name_dict", "is_name_dict", defArgs (SF.topS 16), defBody (SF.topS 16), defScope (SF.topS 16), []⟩, ⟨fun K => ga K "is_block", "is_block", "is_block", defArgs (SF.topS 28), defBody (SF.topS 28), defScope (SF.topS 28), []⟩, ⟨fun K => ga K "_inner_parts", "_inner_parts", "_inner_parts", defArgs (SF.topS 29), defBody (SF.topS 29), defScope (SF.topS 29), []⟩, ⟨fun K => ga K "_is_leaf", "_is_leaf", "_is_leaf", defArgs (SF.topS 30), defBody (SF.topS 30), defScope (SF.topS 30), []⟩, ⟨fun K => ga K "_statements", "_statements", "_statements", defArgs (SF.topS 31), defBody (SF.topS 31), defScope (SF.topS 31), []⟩, ⟨fun K => ga K "_form_parts", "_form_parts", "_form_parts", defArgs (SF.topS 32), defBody (SF.topS 32), defScope (SF.topS 32), []⟩, ⟨fun K => ga K "form_of", "form_of", "form_of", defArgs (SF.topS 33), defBody (SF.topS 33), defScope (SF.topS 33), []⟩]
def fn1 : List FnQ := [⟨fun K => ga K "_may_stand", "_may_stand", "_may_stand", defArgs (SF.topS 34), defBody (SF.topS 34), defScope (SF.topS 34), []⟩, ⟨fun K => ga K "check_most", "check_most", "check_most", defArgs (SF.topS 47), defBody (SF.topS 47), defScope (SF.topS 47), []⟩, ⟨fun K => ga K "latest", "latest", "latest", defArgs (SF.topS 53), defBody (SF.topS 53), defScope (SF.topS 53), []⟩, ⟨fun K => ga K "told", "told", "told", defArgs (SF.topS 54), defBody (SF.topS 54), defScope (SF.topS 54), []⟩, ⟨fun K => ga K "_copied_classes", "_copied_classes", "_copied_classes", defArgs (SF.topS 62), defBody (SF.topS 62), defScope (SF.topS 62), []⟩, ⟨fun K => ga K "_wrong_part", "_wrong_part", "_wrong_part", defArgs (SF.topS 63), defBody (SF.topS 63), defScope (SF.topS 63), []⟩, ⟨fun K => ga K "_is_classes", "_is_classes", "_is_classes", defArgs (SF.topS 64), defBody (SF.topS 64), defScope (SF.topS 64), []⟩, ⟨fun K => ga K "_has_ring", "_has_ring", "_has_ring", defArgs (SF.topS 66), defBody (SF.topS 66), defScope (SF.topS 66), []⟩, ⟨fun K => ga K "run", "run", "run", defArgs (SF.topS 69), defBody (SF.topS 69), defScope (SF.topS 69), []⟩, ⟨fun K => ga K "_law_begin", "_law_begin", "_law_begin", defArgs (SF.topS 71), defBody (SF.topS 71), defScope (SF.topS 71), []⟩]
def fn2 : List FnQ := [⟨fun K => ga K "_law_load", "_law_load", "_law_load", defArgs (SF.topS 72), defBody (SF.topS 72), defScope (SF.topS 72), []⟩, ⟨fun K => ga K "_law_draw", "_law_draw", "_law_draw", defArgs (SF.topS 73), defBody (SF.topS 73), defScope (SF.topS 73), []⟩, ⟨fun K => ga K "_law_word", "_law_word", "_law_word", defArgs (SF.topS 74), defBody (SF.topS 74), defScope (SF.topS 74), []⟩, ⟨fun K => ga K "_law_words", "_law_words", "_law_words", defArgs (SF.topS 75), defBody (SF.topS 75), defScope (SF.topS 75), []⟩, ⟨fun K => ga K "_law_fold", "_law_fold", "_law_fold", defArgs (SF.topS 76), defBody (SF.topS 76), defScope (SF.topS 76), []⟩, ⟨fun K => ga K "_law_told", "_law_told", "_law_told", defArgs (SF.topS 77), defBody (SF.topS 77), defScope (SF.topS 77), []⟩, ⟨fun K => ga K "_law_name", "_law_name", "_law_name", defArgs (SF.topS 78), defBody (SF.topS 78), defScope (SF.topS 78), []⟩, ⟨fun K => ga K "_law_simple", "_law_simple", "_law_simple", defArgs (SF.topS 79), defBody (SF.topS 79), defScope (SF.topS 79), []⟩, ⟨fun K => ga K "_law_row", "_law_row", "_law_row", defArgs (SF.topS 80), defBody (SF.topS 80), defScope (SF.topS 80), []⟩, ⟨fun K => ga K "_law_text", "_law_text", "_law_text", defArgs (SF.topS 81), defBody (SF.topS 81), defScope (SF.topS 81), []⟩]
def fn3 : List FnQ := [⟨fun K => ga K "_law_do", "_law_do", "_law_do", defArgs (SF.topS 82), defBody (SF.topS 82), defScope (SF.topS 82), []⟩, ⟨fun K => ga K "law", "law", "law", defArgs (SF.topS 83), defBody (SF.topS 83), defScope (SF.topS 83), []⟩, ⟨fun K => ma K (ga K "Machine") "__init__", "__init__", "Machine.__init__", defArgs (inClass (SF.topS 57) 0), defBody (inClass (SF.topS 57) 0), defScope (inClass (SF.topS 57) 0), []⟩, ⟨fun K => ma K (ga K "Call") "__init__", "__init__", "Call.__init__", defArgs (inClass (SF.topS 50) 0), defBody (inClass (SF.topS 50) 0), defScope (inClass (SF.topS 50) 0), []⟩, ⟨fun K => ma K (ga K "Surroundings") "__init__", "__init__", "Surroundings.__init__", defArgs (inClass (SF.topS 49) 0), defBody (inClass (SF.topS 49) 0), defScope (inClass (SF.topS 49) 0), []⟩, ⟨fun K => ma K (ga K "Level") "__init__", "__init__", "Level.__init__", defArgs (inClass (SF.topS 56) 0), defBody (inClass (SF.topS 56) 0), defScope (inClass (SF.topS 56) 0), []⟩, ⟨fun K => ma K (ga K "Function") "__init__", "__init__", "Function.__init__", defArgs (inClass (SF.topS 51) 0), defBody (inClass (SF.topS 51) 0), defScope (inClass (SF.topS 51) 0), []⟩, ⟨fun K => ma K (ga K "Program") "__init__", "__init__", "Program.__init__", defArgs (inClass (SF.topS 61) 0), defBody (inClass (SF.topS 61) 0), defScope (inClass (SF.topS 61) 0), []⟩, ⟨fun K => ma K (ga K "Place") "__init__", "__init__", "Place.__init__", defArgs (inClass (SF.topS 27) 0), defBody (inClass (SF.topS 27) 0), defScope (inClass (SF.topS 27) 0), []⟩, ⟨fun K => ma K (ga K "Machine") "_raise", "_raise", "Machine._raise", defArgs (inClass (SF.topS 57) 11), defBody (inClass (SF.topS 57) 11), defScope (inClass (SF.topS 57) 11), []⟩]
def fn4 : List FnQ := [⟨fun K => ma K (ga K "Machine") "_value", "_value", "Machine._value", defArgs (inClass (SF.topS 57) 9), defBody (inClass (SF.topS 57) 9), defScope (inClass (SF.topS 57) 9), []⟩, ⟨fun K => ma K (ga K "Machine") "_values", "_values", "Machine._values", defArgs (inClass (SF.topS 57) 8), defBody (inClass (SF.topS 57) 8), defScope (inClass (SF.topS 57) 8), []⟩, ⟨fun K => ma K (ga K "Machine") "_holds", "_holds", "Machine._holds", defArgs (inClass (SF.topS 57) 7), defBody (inClass (SF.topS 57) 7), defScope (inClass (SF.topS 57) 7), []⟩, ⟨fun K => ma K (ga K "Machine") "_set", "_set", "Machine._set", defArgs (inClass (SF.topS 57) 17), defBody (inClass (SF.topS 57) 17), defScope (inClass (SF.topS 57) 17), []⟩, ⟨fun K => ma K (ga K "Machine") "_finish", "_finish", "Machine._finish", defArgs (inClass (SF.topS 57) 16), defBody (inClass (SF.topS 57) 16), defScope (inClass (SF.topS 57) 16), []⟩, ⟨fun K => ma K (ga K "Machine") "_choose", "_choose", "Machine._choose", defArgs (inClass (SF.topS 57) 6), defBody (inClass (SF.topS 57) 6), defScope (inClass (SF.topS 57) 6), []⟩, ⟨fun K => ma K (ga K "Machine") "_begin", "_begin", "Machine._begin", defArgs (inClass (SF.topS 57) 5), defBody (inClass (SF.topS 57) 5), defScope (inClass (SF.topS 57) 5), []⟩, ⟨fun K => ma K (ga K "Machine") "_begin_call", "_begin_call", "Machine._begin_call", defArgs (inClass (SF.topS 57) 12), defBody (inClass (SF.topS 57) 12), defScope (inClass (SF.topS 57) 12), []⟩, ⟨fun K => ma K (ga K "Machine") "_call_function", "_call_function", "Machine._call_function", defArgs (inClass (SF.topS 57) 13), defBody (inClass (SF.topS 57) 13), defScope (inClass (SF.topS 57) 13), []⟩, ⟨fun K => ma K (ga K "Machine") "_enter", "_enter", "Machine._enter", defArgs (inClass (SF.topS 57) 15), defBody (inClass (SF.topS 57) 15), defScope (inClass (SF.topS 57) 15), []⟩]
def fn5 : List FnQ := [⟨fun K => ma K (ga K "Machine") "_leave_call", "_leave_call", "Machine._leave_call", defArgs (inClass (SF.topS 57) 22), defBody (inClass (SF.topS 57) 22), defScope (inClass (SF.topS 57) 22), []⟩, ⟨fun K => ma K (ga K "Machine") "_leave_try", "_leave_try", "Machine._leave_try", defArgs (inClass (SF.topS 57) 21), defBody (inClass (SF.topS 57) 21), defScope (inClass (SF.topS 57) 21), []⟩, ⟨fun K => ma K (ga K "Machine") "_leave", "_leave", "Machine._leave", defArgs (inClass (SF.topS 57) 20), defBody (inClass (SF.topS 57) 20), defScope (inClass (SF.topS 57) 20), []⟩, ⟨fun K => ma K (ga K "Machine") "_settle", "_settle", "Machine._settle", defArgs (inClass (SF.topS 57) 19), defBody (inClass (SF.topS 57) 19), defScope (inClass (SF.topS 57) 19), []⟩, ⟨fun K => ma K (ga K "Machine") "_look", "_look", "Machine._look", defArgs (inClass (SF.topS 57) 4), defBody (inClass (SF.topS 57) 4), defScope (inClass (SF.topS 57) 4), []⟩, ⟨fun K => ma K (ga K "Machine") "step", "step", "Machine.step", defArgs (inClass (SF.topS 57) 3), defBody (inClass (SF.topS 57) 3), defScope (inClass (SF.topS 57) 3), []⟩, ⟨fun K => ma K (ga K "Surroundings") "give", "give", "Surroundings.give", defArgs (inClass (SF.topS 49) 1), defBody (inClass (SF.topS 49) 1), defScope (inClass (SF.topS 49) 1), []⟩, ⟨fun K => ma K (ga K "Surroundings") "nearest", "nearest", "Surroundings.nearest", defArgs (inClass (SF.topS 49) 2), defBody (inClass (SF.topS 49) 2), defScope (inClass (SF.topS 49) 2), []⟩, ⟨fun K => getA K, "classes", "Program.classes", defArgs (inClass (SF.topS 61) 1), defBody (inClass (SF.topS 61) 1), defScope (inClass (SF.topS 61) 1), []⟩]
def fn : List FnQ := fn0 ++ fn1 ++ fn2 ++ fn3 ++ fn4 ++ fn5
def fa0 : List Fa := [.glo "is_integer", .glo "is_name", .glo "is_names", .glo "is_name_dict", .glo "SIMPLES", .glo "CALLS", .glo "TESTS", .glo "STATEMENTS", .glo "Place", .glo "is_block", .glo "_inner_parts", .glo "_is_leaf", .glo "_statements", .glo "_form_parts", .glo "form_of", .glo "_may_stand", .glo "check_most", .glo "Surroundings", .glo "Call", .glo "Function", .glo "latest", .glo "told", .glo "Level", .glo "Machine", .glo "Program"]
def fa1 : List Fa := [.glo "_copied_classes", .glo "_wrong_part", .glo "_is_classes", .glo "_has_ring", .glo "run", .glo "_law_begin", .glo "_law_load", .glo "_law_draw", .glo "_law_word", .glo "_law_words", .glo "_law_fold", .glo "_law_told", .glo "_law_name", .glo "_law_simple", .glo "_law_row", .glo "_law_text", .glo "_law_do", .glo "law", .free "len", .free "isinstance", .free "str", .free "tuple", .free "dict", .free "all", .free "any"]
def fa2 : List Fa := [.free "set", .free "zip", .free "sorted", .free "enumerate", .free "reversed", .free "min", .free "max", .free "abs", .free "range", .free "list", .free "int", .free "bool", .int "MOST_LETTERS" 8, .int "MOST_STATEMENTS" 12, .int "MOST_BLOCKS" 8, .int "MOST_TESTS" 3, .int "MOST_THINGS" 3, .int "MOST_PARAMS" 3, .int "MOST_FIELDS" 3, .int "MOST_WORDS" 4, .int "MOST_METHODS" 5, .int "HIGHEST_MOST" 100000, .int "MOST_CLASSES" 8, .int "MOST_CALLS" 200, .cls "Machine"]
def fa3 : List Fa := [.noat "Machine" "_classes", .noat "Machine" "_chains", .noat "Machine" "_body", .noat "Machine" "_levels", .noat "Machine" "_going", .noat "Machine" "steps", .noat "Machine" "printed", .noat "Machine" "deepest", .noat "Machine" "ending", .mkr "Machine", .cls "Call", .noat "Call" "surroundings", .noat "Call" "thing", .noat "Call" "text", .noat "Call" "waiting", .noat "Call" "number", .mkr "Call", .cls "Surroundings", .noat "Surroundings" "outer", .noat "Surroundings" "pasts", .mkr "Surroundings", .cls "Level", .noat "Level" "kind", .noat "Level" "block", .noat "Level" "call"]
def fa4 : List Fa := [.noat "Level" "more", .noat "Level" "reached", .mkr "Level", .cls "Function", .noat "Function" "params", .noat "Function" "block", .noat "Function" "made_in", .mkr "Function", .cls "Thing", .noat "Thing" "chain", .noat "Thing" "pasts", .cls "Program", .noat "Program" "_classes", .noat "Program" "body", .mkr "Program", .cls "Place", .noat "Place" "new_classes", .noat "Place" "own_fields", .noat "Place" "in_method", .noat "Place" "has_parent", .mkr "Place", .meth "Machine" "_raise", .meth "Machine" "_value", .meth "Machine" "_values", .meth "Machine" "_holds"]
def fa5 : List Fa := [.meth "Machine" "_set", .meth "Machine" "_finish", .meth "Machine" "_choose", .meth "Machine" "_begin", .meth "Machine" "_begin_call", .meth "Machine" "_call_function", .meth "Machine" "_enter", .meth "Machine" "_leave_call", .meth "Machine" "_leave_try", .meth "Machine" "_leave", .meth "Machine" "_settle", .meth "Machine" "_look", .meth "Machine" "step", .meth "Surroundings" "give", .meth "Surroundings" "nearest"]
def fa : List Fa := fa0 ++ fa1 ++ fa2 ++ fa3 ++ fa4 ++ fa5
def loose0 : List Str := ["_wall", "MOST_PARTS", "copied", "_copy", "_has_few_parts", "StandError", "BadProgram", "BadNumber", "TooLong", "MOST_LETTERS", "is_integer", "is_name", "is_names", "is_name_dict", "MOST_STATEMENTS", "MOST_BLOCKS", "MOST_TESTS", "MOST_THINGS", "MOST_PARAMS", "SIMPLES", "CALLS", "TESTS", "STATEMENTS", "Place", "is_block", "_inner_parts", "_is_leaf", "_statements", "_form_parts", "form_of"]
def loose1 : List Str := ["_may_stand", "MOST_FIELDS", "MOST_WORDS", "MOST_METHODS", "is_class_form", "bad_method", "copied_class", "_is_fields", "_is_methods", "_is_method", "HIGHEST_MOST", "check_most", "Surroundings", "Call", "Function", "Thing", "latest", "told", "Level", "Machine", "_chain", "MOST_CLASSES", "Program", "_copied_classes", "_wrong_part", "_is_classes", "_has_parent_among", "_has_ring", "MOST_CALLS", "run"]
def loose2 : List Str := ["_law_begin", "_law_load", "_law_draw", "_law_word", "_law_words", "_law_fold", "_law_told", "_law_name", "_law_simple", "_law_row", "_law_text", "_law_do"]
def loose : List Str := loose0 ++ loose1 ++ loose2
def ts : List Tab := [(fun K => ga K "SIMPLES", SF.tabS.map (·.1)), (fun K => ga K "CALLS", SF.tabC.map (·.1)), (fun K => ga K "TESTS", SF.tabT.map (·.1)), (fun K => ga K "STATEMENTS", SF.tabSt.map (·.1))]
abbrev PR : Program := PySem.Challenge.pw_standsfor_k19_names_in_straight_rows
def ex (K : PySem.W.Frag) : Bool := (tabB K (ga K "SIMPLES") SF.tabS && (tabB K (ga K "CALLS") SF.tabC && (tabB K (ga K "TESTS") SF.tabT && (tabB K (ga K "STATEMENTS") SF.tabSt && (eqO (PySem.W.findIn K (.ref (ga K "Program")) "__class__") (some (some (.builtin "object.__class__"))) && (eqO (PySem.W.specialIn K (.builtin "object.__class__") "__get__") (some (some (.builtin "getset_descriptor.__get__"))) && (decide (PySem.W.takesIn K (.builtin "object.__class__") = some true) && (decide (PySem.W.mroIn K (ga K "Program") (.type "object") = some true) && (decide (PySem.W.kitOne K (.ref (ga K "Program")) (.ref (ga K "Program")) = some true) && (eqO (PySem.W.findIn K (.ref (ga K "Program")) "classes") (some (some (.ref (ma K (ga K "Program") "classes")))) && (eqO (PySem.W.specialIn K (.ref (ma K (ga K "Program") "classes")) "__get__") (some (some (.builtin "property.__get__"))) && (oB (PySem.W.takesIn K (.ref (ma K (ga K "Program") "classes"))) (some true) && (recB K && (G17.kwB K (ga K "run") [("most", .int 20000)] && (eqO (PySem.W.findIn K (.ref (ga K "Function")) "__class__") (some (some (.builtin "object.__class__"))) && (decide (PySem.W.mroIn K (ga K "Function") (.type "object") = some true) && (decide (PySem.W.kitOne K (.ref (ga K "Function")) (.ref (ga K "Function")) = some true) && true)))))))))))))))))
abbrev AlY : Type := Bool × (List FnS × List (Option (List (Option (Str × Int)))))
def obsY (K : PySem.W.Frag) : AlY := ((fa.all fun f => f.ok K) && ((fn.all fun d => d.ok K) && ex K), (fn.map fun d => fnQ K (d.addr K), ts.map fun t => dicW K (t.1 K)))
def valY (w : World) : AlY := (true, (fn.map FnQ.val, ts.map fun t => some (keysIn w.params t.2)))
def lvY (g : Addr → Option Obj) (as : List Addr) : List Addr := as.flatMap fun a => match g a with
  | some o => refsD o
  | none => []
def goY (g : Addr → Option Obj) : Nat → List Addr → List Addr
  | 0, as => as
  | n + 1, as => as ++ goY g n (lvY g as)
def frY (g : Addr → Option Obj) : PySem.W.Frag := frG g (cStatics :: goY g 5 [mainGlobals])
def hk : PySem.W.Hook where
  α := AlY
  obs := fun s => obsY (frY s.heap.get?)
  val := fun w => valY w
  says := fun w h => ∃ K : PySem.W.Frag, K.In h ∧ obsY K = valY w
  of := fun _ _ e => ⟨_, frG_in, e⟩
  keeps := fun _ _ _ ⟨K, hK, c⟩ k => ⟨K, PySem.W.Frag.In.keeps hK k, c⟩
def ob (s : PySem.W.SharedT) : AlY := obsY (frY (HandSHeadRun.getT s))
theorem ob_eq (s : PySem.W.SharedT) : ob s = hk.obs s.abs := by
  have e : HandSHeadRun.getT s = s.abs.heap.get? := funext (HandSHeadRun.getT_eq s)
  show obsY (frY (HandSHeadRun.getT s)) = obsY (frY s.abs.heap.get?)
  rw [e]
abbrev R : PySem.W.OpenRow := PySem.W.OpenLaw.row PySem.Challenge.rw_standsfor_k19_names_in_straight_rows
end HK
set_option Elab.async false
set_option linter.all false
set_option maxRecDepth 1000000
set_option maxHeartbeats 0
namespace HK
open PySem PySem.Spec PyProof.Rows L2 He G9
theorem runF (w : World) : HandSHeadRun.RunEq R (PySem.W.view R.prog [83]) hk ob 8000 loose (w.withFollow "special-get-raises" false) := by
  intro os
  kernel_rfl
theorem runT (w : World) : HandSHeadRun.RunEq R (PySem.W.view R.prog [83]) hk ob 8000 loose (w.withFollow "special-get-raises" true) := by
  intro os
  kernel_rfl
end HK
set_option Elab.async false
set_option linter.all false
set_option maxRecDepth 100000
set_option maxHeartbeats 4000000
/-! rules of our own: a written table's get; an own exception whose __init__ begins with super().__init__(text) -/
namespace G0
open PySem PySem.Spec PyProof.Rows L2
/-! ### get of a written dict with text keys -/
def KD (K : PySem.W.Frag) (w : World) (p : Addr) : Prop := ∃ es n, KDict K w p es n
def tKGet (K : PySem.W.Frag) (w : World) (td ty : TE) : TE := fun σ H Q => td σ H fun x H1 => ∃ p, x = .ref p ∧ KD K w p ∧ ty σ H1 fun y H2 => ∃ z r, y = .str z ∧ PySem.W.nsIn K p z = some r ∧
  (∀ u, r = some u → ∃ v, RelV v u ∧ Q v H2) ∧ (r = none → Q .non H2)
section
variable {X : Cx} {o e : Expr} {apos cpos : Pos} {td ty : TE}
theorem pe_kget (ho : PE X o td) (he : PE X e ty) (m : M1 X o "get" apos e cpos) : PE X (.Call (.Attribute o "get" apos) [e] [] cpos) (tKGet X.K X.w td ty) := by
  refine ⟨fun pins s σ H Q I h => ?_⟩
  refine wpAny_Call_method m.base m.few m.line PySem.F.plainAttrs_dict PySem.F.slot_dict_get PySem.F.type_dict_get (thn (ho.run pins s σ H _ I h) fun u s1 ⟨x, H1, I1, rx, p, ex, ⟨es, n, D⟩, q1⟩ => ?_)
  subst ex
  obtain rfl : u = Value.ref p := rx
  refine ⟨kd_type D I1, fun b q => ?_, ?_⟩
  · cases q
    exact ⟨_, I1.kIn _ _ D.at_, rfl⟩
  rw [m.trees]
  refine Calls.callWith_builtin rfl (Calls.evalArgs_plain (Calls.spliced_cons (thn (he.run pins s1 σ H1 _ I1 q1) fun iv s2 ⟨y, H2, I2, ry, z, r, ey, en, q2, q3⟩ => Calls.spliced_nil ?_)))
  subst ey
  obtain ⟨t, rfl⟩ := ry
  have hm := PySem.W.mapOf_K (prog := X.prog) (w := X.w) I2.kIn D.at_ D.lit
  refine call_meetsIn PySem.F.slot_dict_get hm.typeIs PySem.F.entry_dict_get (PySem.F.args_dict_get_2 _ _) (meets_dict_get (strKind X.prog X.w) p (strKind_is X.prog X.w z t) D.low) ⟨_, hm, ?_⟩
  have hf := PySem.W.find_K D.at_ en
  rw [hf]
  cases r with
  | none => exact ⟨.non, H2, I2.tok _, rfl, q3 rfl⟩
  | some u =>
    obtain ⟨v, rv, q⟩ := q2 u rfl
    exact ⟨v, H2, I2.tok _, rv, q⟩
end
end G0
set_option Elab.async false
set_option linter.all false
set_option maxRecDepth 100000
set_option maxHeartbeats 4000000
set_option Elab.async false
set_option linter.all false
set_option maxRecDepth 100000
set_option maxHeartbeats 8000000
/-! set(t) of a tuple of keys of any kind; len(set(t)) of a tuple of texts -/
namespace G2
open PySem PySem.Spec PyProof.Rows
section
variable {K : Type} [DecidableEq K]
/-- the keys in the order in which they are first met -/
def met (val : Nat → K) : Nat → List K
  | 0 => []
  | i + 1 => if val i ∈ met val i then met val i else met val i ++ [val i]
theorem met_succ (val : Nat → K) (i : Nat) : met val (i + 1) = if val i ∈ met val i then met val i else met val i ++ [val i] := rfl
theorem met_len (val : Nat → K) : ∀ i, (met val i).length ≤ i
  | 0 => Nat.le_refl 0
  | i + 1 => by
    have ih := met_len val i
    rw [met_succ]
    split
    · omega
    · rw [List.length_append, List.length_singleton]; omega
theorem met_mem (val : Nat → K) (k : K) : ∀ i, k ∈ met val i ↔ ∃ j, j < i ∧ val j = k
  | 0 => by simp [met]
  | i + 1 => by
    have ih := met_mem val k i
    have e : k ∈ met val (i + 1) ↔ k ∈ met val i ∨ k = val i := by
      rw [met_succ]
      split
      · rename_i h
        exact ⟨.inl, fun z => z.elim id fun z => by rw [z]; exact h⟩
      · simp
    rw [e, ih]
    constructor
    · rintro (⟨j, hj, hk⟩ | rfl)
      · exact ⟨j, by omega, hk⟩
      · exact ⟨i, by omega, rfl⟩
    · rintro ⟨j, hj, hk⟩
      by_cases q : j = i
      · subst q; exact .inr hk.symm
      · exact .inl ⟨j, by omega, hk⟩
/-- as many as there are exactly if no two are alike -/
theorem met_full (val : Nat → K) : ∀ n, (met val n).length = n ↔ ∀ i j, i < n → j < n → val i = val j → i = j
  | 0 => by simp [met]
  | n + 1 => by
    have ih := met_full val n
    have hl := met_len val n
    rw [met_succ]
    split
    · rename_i h
      obtain ⟨j, hj, hk⟩ := (met_mem val (val n) n).mp h
      constructor
      · intro e; omega
      · intro q
        have := q j n (by omega) (by omega) hk
        omega
    · rename_i h
      rw [List.length_append, List.length_singleton]
      constructor
      · intro e i j hi hj hk
        have q := ih.mp (by omega)
        by_cases a : i = n
        · by_cases b : j = n
          · omega
          · exact absurd ((met_mem val (val n) n).mpr ⟨j, by omega, by rw [← hk, a]⟩) h
        · by_cases b : j = n
          · exact absurd ((met_mem val (val n) n).mpr ⟨i, by omega, by rw [hk, b]⟩) h
          · exact q i j (by omega) (by omega) hk
      · intro q
        have := ih.mpr fun i j hi hj hk => q i j (by omega) (by omega) hk
        omega
end
section
variable {K : Type} [DecidableEq K] [BEq K] [LawfulBEq K] {prog : Program} {w : World} {A : Around} {R : Result → Shared → Prop} {I : Addr} {fp wr : List Addr} {G : Array GenState → Array GenState → Prop} {n : Nat} {P : Nat → Value → Prop} {St : Nat → Shared → Prop}
theorem grow (knd : KeyKind prog w K) (W : WalksS prog w A.in1 I fp wr G n P St) (S : Addr) (hSf : S ∉ fp) (val : Nat → K) (hval : ∀ i v, P i v → knd.is (val i) v = true ∧ v.scannable = true) (hb : n + 1 < scanBound) :
    ∀ (k i : Nat) (s : Shared), n - i = k → i ≤ n → St i s → s.heap.SetOf knd S (fun q => decide (q ∈ met val i)) (met val i).length →
      (∀ s', Moved (S :: wr) G s s' → s'.heap.SetOf knd S (fun q => decide (q ∈ met val n)) (met val n).length → R (.ok (.ret .none)) s') →
      codeAny (model prog w) A (.builtin "set.update.loop" ⟨[.ref S, .ref I], []⟩) R s := by
  have nw : S ∉ wr := fun h => hSf (W.sub _ h)
  have sub : ∀ b ∈ wr, b ∈ S :: wr := fun b hb => List.mem_cons_of_mem _ hb
  have move : ∀ {i : Nat} {s s' : Shared}, s.heap.SetOf knd S (fun q => decide (q ∈ met val i)) (met val i).length → Moved wr G s s' → s'.heap.SetOf knd S (fun q => decide (q ∈ met val i)) (met val i).length := fun {i s s'} z m => by
    obtain ⟨o, es, ep, tb, ho, r⟩ := z
    exact ⟨o, es, ep, tb, m.heap S _ nw ho, r⟩
  intro k
  induction k with
  | zero =>
    intro i s hk hi hst hS hR
    obtain rfl : i = n := by omega
    refine codeAny_builtin F.entry_set_update_loop ?_
    rw [Around.under_plainId F.plain_set_update_loop _]
    show wpAny _ A.in1 (pyNext (.ref I) >>= _) _ _ s
    exact wpAny_bind (W.done s _ _ hst fun s' m => wpAny_pure (hR s' (m.mono sub) (move hS m)))
  | succ k ih =>
    intro i s hk hi hst hS hR
    have lt : i < n := by omega
    refine codeAny_builtin F.entry_set_update_loop ?_
    rw [Around.under_plainId F.plain_set_update_loop _]
    show wpAny _ A.in1 (pyNext (.ref I) >>= _) _ _ s
    refine wpAny_bind (W.item i s _ _ lt hst fun v s' hP hst' m => ?_)
    obtain ⟨hv, hsc⟩ := hval i v hP
    have hS1 := move hS m
    show wpAny _ A.in1 (holding [v] (setAdd S v) >>= _) _ _ s'
    refine wpAny_bind (wpAny_holding ?_)
    unfold setAdd
    refine wpAny_holding (wpAny_bind (knd.pyHash hv ?_))
    refine wpAny_setAddHashed_of (knd := knd) (s := { s' with toks := s'.toks + 1 }) hv hsc hS1 (by have := met_len val i; omega) fun h' sb S2 => ?_
    have S3 : h'.SetOf knd S (fun q => decide (q ∈ met val (i + 1))) (met val (i + 1)).length := by
      refine SetOf_congr S2 (fun q => ?_) ?_
      · show (decide (q ∈ met val i) || decide (q = val i)) = decide (q ∈ met val (i + 1))
        rw [← Bool.decide_or]
        refine decide_eq_decide.mpr ?_
        rw [met_succ]
        split
        · rename_i z
          exact ⟨fun y => y.elim id fun y => by rw [y]; exact z, .inl⟩
        · simp
      · rw [met_succ]
        by_cases z : val i ∈ met val i
        · rw [if_pos z, if_pos (decide_eq_true z)]
        · rw [if_neg z, if_neg (by rw [decide_eq_false z]; exact Bool.false_ne_true), List.length_append, List.length_singleton]
    refine wpAny_pure ⟨plainId_quiet F.plain_set_update_loop _, ih (i + 1) _ (by omega) lt (W.frame _ s' _ _ hst' (Nat.le_succ _) fun b hb o e => ?_) S3 fun s'' m2 S4 => ?_⟩
    · rw [sb.2 b (fun h => hSf (by rw [← h]; exact hb))]; exact e
    · refine hR s'' (Moved.trans W.gtrans ((m.mono sub).then_heap (Nat.le_succ _) fun b o hb e => ?_) m2) S4
      rw [sb.2 b (fun h => hb (by rw [h]; exact List.mem_cons_self))]; exact e
end
abbrev new0 (led : Bool) : Obj := { cls := .type "set", dict := none, data := .set #[] 0 (.fresh 0 0 led) }
section
variable {K : Type} [DecidableEq K] [BEq K] [LawfulBEq K] {prog : Program} {w : World} {A : Around} {E : Value → Shared → Prop} {s : Shared}
/-- what stands behind: the set of the met keys, at the first free place -/
def Made (knd : KeyKind prog w K) (s : Shared) (val : Nat → K) (n : Nat) (h' : Heap) : Prop :=
  h'.SetOf knd s.heap.objs.size (fun q => decide (q ∈ met val n)) (met val n).length ∧ ∀ b o, b < s.heap.objs.size → s.heap.get? b = some o → h'.get? b = some o
/-- set.__init__ on the new set and the tuple -/
theorem init_tuple (knd : KeyKind prog w K) {l : Addr} {items : Array Value} {val : Nat → K} {led : Bool} {R : Result → Shared → Prop}
    (hh : A.handled = none) (hl : s.heap.IsTuple l items) (hv : ∀ i v, items[i]? = some v → knd.is (val i) v = true ∧ v.scannable = true) (hb : items.size + 1 < scanBound)
    (hR : ∀ h' tk, Made knd s val items.size h' → R (.ok (.ret .none)) { s with heap := h', toks := tk }) :
    codeAny (model prog w) A (.call (.builtin "set.__init__") ⟨[.ref s.heap.objs.size, .ref l], []⟩) R { s with heap := s.heap.push (new0 led) } := by
  have hS : (s.heap.push (new0 led)).get? s.heap.objs.size = some (new0 led) := Heap.get?_push_size _ rfl
  have hT : Shared.TypeIs { s with heap := s.heap.push (new0 led) } (.ref s.heap.objs.size) "set" := ⟨_, hS, rfl⟩
  refine codeAny_call_builtin F.called_set.init.plain F.entry_set_init (check_set_init_1 hT ?_)
  have hlS : l < s.heap.objs.size := by obtain ⟨_, q, _⟩ := hl; exact Heap.lt_size q
  have hT1 : (s.heap.push (new0 led)).IsTuple l items := hl.push _
  obtain ⟨⟨ocls, odict, odata, oslots⟩, hol', hcl, nl, hdl⟩ := id hT1
  simp only at hcl hdl
  subst hcl; subst hdl
  have q1 := F.sub_tuple_set
  have q2 := F.sub_tuple_frozenset
  have q3 : (Value.type "tuple" == Value.type "dict") = false := by decide
  unfold Builtin.«set.__init__» noKeywords Builtin.Frozenset.updateFrom
  generalize hPI : pyIter = PI
  wp_walk
  subst hPI
  refine wpAny_pyIter_tuple hT1 (wpAny_bind (wpAny_runValue ?_))
  have hh3 : A.in1.in1.handled = none := by simp [hh]
  have ne1 : l ≠ (s.heap.push (new0 led)).objs.size := by
    rw [Heap.size_push]; exact Nat.ne_of_lt (Nat.lt_succ_of_lt hlS)
  have ne2 : s.heap.objs.size ∉ [(s.heap.push (new0 led)).objs.size, l] := by
    rw [Heap.size_push]
    intro z
    rcases List.mem_cons.mp z with z | z
    · exact Nat.ne_of_lt (Nat.lt_succ_self _) z
    · exact Nat.ne_of_gt hlS (List.mem_singleton.mp z)
  refine grow knd ((Walks.tuple hh3 _ l ne1 items).toS) s.heap.objs.size ne2 val hv hb (items.size - 0) 0 _ (by omega) (Nat.zero_le _) ?hst ?hz0 ?hz1
  case hst => exact ⟨⟨_, Heap.get?_push_size _ rfl, rfl, rfl⟩, Heap.IsTuple.push hT1 _⟩
  case hz0 => exact SetOf_congr ((setObjOf_fresh (knd := knd) led).setOf (Heap.get?_push_of_some _ hS) (by unfold scanBound; omega)) (fun _ => rfl) rfl
  case hz1 =>
    rintro ⟨h', g', d', tk', os'⟩ m z
    obtain rfl : g' = s.gens := m.gens
    obtain rfl : d' = s.drawn := m.drawn
    obtain rfl : os' = s.os := m.os
    show wpAny _ _ _ _ _ _
    refine wpAny_pure ?_
    show wpAny _ _ (ret Value.none) _ _ _
    refine wpAny_pure (hR h' tk' ⟨z, fun b o hb e => m.heap b o ?_ (Heap.get?_push_of_some _ (Heap.get?_push_of_some _ e))⟩)
    rw [Heap.size_push]
    intro y
    rcases List.mem_cons.mp y with y | y
    · exact Nat.ne_of_lt hb y
    · exact Nat.ne_of_lt (Nat.lt_succ_of_lt hb) (List.mem_singleton.mp y)
theorem set_tuple (knd : KeyKind prog w K) {l : Addr} {items : Array Value} {val : Nat → K} {Q : Value → Shared → Prop}
    (hh : A.handled = none) (hl : s.heap.IsTuple l items) (hv : ∀ i v, items[i]? = some v → knd.is (val i) v = true ∧ v.scannable = true) (hb : items.size + 1 < scanBound)
    (hq : ∀ h' tk, Made knd s val items.size h' → Q (.ref s.heap.objs.size) { s with heap := h', toks := tk }) :
    wpAny (model prog w) A (call (.type "set") [.ref l]) Q E s := by
  obtain ⟨c, tl, hmro⟩ := F.called_set.mro
  have hmade := F.called_set.made
  have hsub := F.called_set.sub
  refine wpAny_call (codeAny_of_tree (wpAny_pure ⟨Code.quiet_builtin _ (by decide +kernel), codeAny_builtin F.entry_type_call ?_⟩))
  rw [Around.under_plain (weight_type_call_type "set" [.ref l] []) rfl]
  have h1 := F.called_set.notType
  have h2 := F.called_set.canCreate
  have h3 := F.typeCall_set_1 (.ref l)
  repeat (any_goals (first | assumption | wp_step))
  refine codeAny_mono (code_set_new_1 (.ref l) (E := E) (Q₁ := fun obj s1 => ∃ led : Bool, obj = .ref s.heap.objs.size ∧ s1 = { s with heap := s.heap.push (new0 led) }) fun led => ⟨led, rfl, rfl⟩) fun r s1 hr => ?_
  cases r with
  | error e => exact hr
  | ok fl =>
    cases fl with
    | ret obj =>
      obtain ⟨led, rfl, rfl⟩ := hr
      have hS : (s.heap.push (new0 led)).get? s.heap.objs.size = some (new0 led) := Heap.get?_push_size _ rfl
      have hT : Shared.TypeIs { s with heap := s.heap.push (new0 led) } (.ref s.heap.objs.size) "set" := ⟨_, hS, rfl⟩
      have h4 := F.called_set.init.lookup
      have h5 := F.called_set.init.bind (.ref s.heap.objs.size)
      repeat (any_goals (first | assumption | wp_step))
      refine codeAny_mono (init_tuple (R := wants (fun r s2 => r = .none ∧ ∃ h' tk, s2 = { s with heap := h', toks := tk } ∧ Made knd s val items.size h') E) knd (by simp [hh]) hl hv hb fun h' tk m => ⟨rfl, h', tk, rfl, m⟩) fun r2 s2 hr2 => ?_
      cases r2 with
      | error e => exact hr2
      | ok fl2 =>
        cases fl2 with
        | ret r =>
          obtain ⟨rfl, h', tk, rfl, m⟩ := hr2
          repeat (any_goals (first | assumption | wp_step))
          exact hq _ _ m
        | _ => exact hr2.elim
    | _ => exact hr.elim
end
end G2
namespace L2
open PySem PySem.Spec PyProof.Rows
/-- len(set(t)), t a tuple of texts -/
def tLenSetT (K : PySem.W.Frag) (ta : TE) : TE := fun σ H Q => ta σ H fun x H1 => ∃ (l : Addr) (xs : List Str), x = .ref l ∧ SqT K H1 l (xs.map V.str) ∧ xs.length ≤ 4000 ∧ Q (.int (G2.met (fun i => xs.getD i Str.empty) xs.length).length) H1
section
variable {X : Cx}
theorem pe_lenSetT {a : Expr} {ta : TE} {p p2 q pos : Pos} (hc : X.calm = true) (hg : Gl X "len") (hm : X.mg "len" = none) (hg2 : Gl X "set") (hm2 : X.mg "set" = none) (ha : PE X a ta)
    (na : starEach [a] X.env = (false, eval a X.env) :: starEach [] X.env := by rfl) : PE X (.Call (.Name "len" p) [.Call (.Name "set" p2) [a] [] q] [] pos) (tLenSetT X.K ta) := by
  refine ⟨fun pins s σ H Q I h => ?_⟩
  refine Call_ (ld_blt I hg hm boot_len ?_)
  refine PyProof.Rows.callWith_builtin1 (PyProof.Rows.args_cons ?_ rfl) rfl rfl
  refine Call_ (ld_blt I hg2 hm2 boot_set ?_)
  refine PyProof.Rows.callWith_type1 (PyProof.Rows.args_cons (thn (ha.run pins s σ H _ I h) fun v s1 ⟨x, H1, I1, r1, q1⟩ => PyProof.Rows.args_nil ?_) na) na rfl
  obtain ⟨l, xs, rfl, hq, hn, q1⟩ := q1
  cases r1
  obtain ⟨its, r, pl, hz⟩ := I1.tuple hq
  have hl : its.toArray.size = xs.length := by rw [List.size_toArray, ← r.length, List.length_map]
  refine G2.set_tuple (strKind X.prog X.w) (val := fun i => xs.getD i Str.empty) (I1.ok.hd hc) pl (fun i v hv => ?_) (by rw [hl]; unfold scanBound; omega) fun h' tk ⟨hS, hk⟩ => ?_
  · have hv' : its[i]? = some v := by rw [← Array.getElem?_toList] at hv; exact hv
    have hi : i < xs.length := by
      have := (List.getElem?_eq_some_iff.mp hv').1
      rw [← r.length, List.length_map] at this
      exact this
    obtain ⟨u, hu, ru⟩ := r.get (i := i) (x := .str xs[i]) (by rw [List.getElem?_map, List.getElem?_eq_getElem hi]; rfl)
    rw [hv'] at hu
    obtain rfl := Option.some.inj hu
    obtain ⟨t, rfl⟩ := ru
    refine ⟨?_, rfl⟩
    show (strKind X.prog X.w).is (xs.getD i Str.empty) (.str xs[i] t) = true
    rw [List.getD_eq_getElem?_getD, List.getElem?_eq_getElem hi]
    exact strKind_is _ _ _ _
  · refine PyProof.Rows.args_nil ?_
    rw [hl] at hS
    obtain ⟨o, es, ep, t, ho, hex, hd, _, _, _, hf, hz2⟩ := hS
    have I2 : Inv X pins σ H1 { s1 with heap := h', toks := tk } := I1.kept fun b o e => hk b o (Heap.lt_size e) e
    have hle := G2.met_len (fun i => xs.getD i Str.empty) xs.length
    exact call_len_set ho hex hd hf (by rw [hz2]; omega) ⟨.int ((G2.met (fun i => xs.getD i Str.empty) xs.length).length : Nat), H1, I2.tok _, ⟨_, by rw [hz2]⟩, q1⟩
end
end L2
set_option Elab.async false
set_option linter.all false
set_option maxRecDepth 100000
set_option maxHeartbeats 4000000
/-- a step of a reading, told by the head of what is read -/
class BVSt (g : Prop) (p : outParam Prop) : Prop where
  mp : p → g
/-- .. steps as far as they go -/
class BVGo (g : Prop) (p : outParam Prop) : Prop where
  mp : p → g
instance (priority := low) bvGo_done {g : Prop} : BVGo g g := ⟨id⟩
instance bvGo_step {g p q : Prop} [a : BVSt g p] [b : BVGo p q] : BVGo g q := ⟨fun h => a.mp (b.mp h)⟩
theorem bvRun {g p q : Prop} [a : BVSt g p] [b : BVGo p q] (h : q) : g := a.mp (b.mp h)
/-- a list's length, told by its items -/
class BVLen {α : Type} (l : List α) (n : Nat) : Prop where
  eq : l.length = n
instance bvLen_nil {α : Type} : BVLen ([] : List α) 0 := ⟨rfl⟩
instance bvLen_cons {α : Type} {x : α} {l : List α} {n : Nat} [h : BVLen l n] : BVLen (x :: l) (n + 1) := ⟨by rw [List.length_cons, h.eq]⟩
class BVLe {α : Type} (l : List α) (n : Nat) : Prop where
  le : l.length ≤ n
instance bvLe_nil {α : Type} {n : Nat} : BVLe ([] : List α) n := ⟨Nat.zero_le _⟩
instance bvLe_cons {α : Type} {x : α} {l : List α} {n : Nat} [h : BVLe l n] : BVLe (x :: l) (n + 1) := ⟨by rw [List.length_cons]; exact Nat.succ_le_succ h.le⟩
class BVNe (i j : Nat) : Prop where
  ne : i ≠ j
instance bvNe_l {j : Nat} : BVNe 0 (j + 1) := ⟨fun h => nomatch h⟩
instance bvNe_r {i : Nat} : BVNe (i + 1) 0 := ⟨fun h => nomatch h⟩
instance bvNe_s {i j : Nat} [h : BVNe i j] : BVNe (i + 1) (j + 1) := ⟨fun e => h.ne (Nat.succ.inj e)⟩
class BVAt {α : Type} (l : List α) (i : Nat) (x : outParam α) : Prop where
  eq : l[i]? = some x
instance bvAt_0 {α : Type} {x : α} {l : List α} : BVAt (x :: l) 0 x := ⟨rfl⟩
instance bvAt_s {α : Type} {x y : α} {l : List α} {i : Nat} [h : BVAt l i x] : BVAt (y :: l) (i + 1) x := ⟨h.eq⟩
instance bvAt_set {α : Type} {x y : α} {l : List α} {i : Nat} [h : BVAt l i y] : BVAt (l.set i x) i x := ⟨List.getElem?_set_self (List.getElem?_eq_some_iff.mp h.eq).1⟩
instance bvAt_ne {α : Type} {x y : α} {l : List α} {i j : Nat} [n : BVNe j i] [h : BVAt l i x] : BVAt (l.set j y) i x := ⟨by rw [List.getElem?_set_ne n.ne]; exact h.eq⟩
/-! data (texts, tuples, anything else) and how they lie in the heap; what the checks say of them -/
namespace SF
open PySem PySem.Spec PyProof.Rows L2
inductive D where
  | s (x : Str)
  | t (ds : List D)
  | o
/-- equal to itself -/
def EqS (v : V) : Prop := flatB v = true ∨ ∃ a, v = .ref a
/-- a value that is neither a text nor a tuple -/
def Oth (K : PySem.W.Frag) (H : Hp) (v : V) : Prop := ∃ T : String, TyX K H v (.type T) ∧ PySem.W.kitOne K (.type T) (.type "str") = some false ∧ PySem.W.kitOne K (.type T) (.type "tuple") = some false ∧ EqS v
mutual
def Rep (K : PySem.W.Frag) (H : Hp) : D → V → Prop
  | .s x, v => v = .str x ∧ x.length ≤ 1000
  | .t ds, v => ∃ (p : Addr) (vs : List V), v = .ref p ∧ SqT K H p vs ∧ Reps K H ds vs
  | .o, v => Oth K H v
def Reps (K : PySem.W.Frag) (H : Hp) : List D → List V → Prop
  | [], vs => vs = []
  | d :: ds, vs => ∃ v r, vs = v :: r ∧ Rep K H d v ∧ Reps K H ds r
end
section
variable {K : PySem.W.Frag} {H H' : Hp}
theorem same_t {a : Addr} {xs : List V} (e : Same H H') (h : SqT K H a xs) : SqT K H' a xs := by
  rcases h with (h | ⟨o, h⟩) | h
  · exact .inl (.inl (e _ _ h))
  · exact .inl (.inr ⟨o, e _ _ h⟩)
  · exact .inr h
theorem same_ty {v : V} {t : Value} (e : Same H H') (h : TyX K H v t) : TyX K H' v t := by
  cases h with
  | base b =>
    cases b with
    | non => exact .base .non
    | bl y => exact .base (.bl y)
    | int i => exact .base (.int i)
    | str y => exact .base (.str y)
    | flt y => exact .base (.flt y)
    | lst q => exact .base (.lst (e _ _ q))
    | frz q => exact .base (.frz (e _ _ q))
    | tup q => exact .base (.tup (e _ _ q))
    | dK q => exact .base (.dK (e _ _ q))
    | dT q => exact .base (.dT (e _ _ q))
    | ins q a b c d f => exact .base (.ins (e _ _ q) a b c d f)
  | byt y => exact .byt y
  | set q => exact .set (e _ _ q)
  | kList q c => exact .kList q c
  | kTuple q c => exact .kTuple q c
  | kDict q c => exact .kDict q c
  | fTuple q => exact .fTuple (e _ _ q)
  | fDict q => exact .fDict (e _ _ q)
mutual
theorem Rep.same (e : Same H H') : ∀ {d : D} {v : V}, Rep K H d v → Rep K H' d v
  | .s x, v, h => by
    unfold Rep at h ⊢
    exact h
  | .t ds, v, h => by
    unfold Rep at h ⊢
    obtain ⟨p, vs, e1, e2, e3⟩ := h
    exact ⟨p, vs, e1, same_t e e2, Reps.same e e3⟩
  | .o, v, h => by
    unfold Rep at h ⊢
    obtain ⟨T, t, z⟩ := h
    exact ⟨T, same_ty e t, z⟩
theorem Reps.same (e : Same H H') : ∀ {ds : List D} {vs : List V}, Reps K H ds vs → Reps K H' ds vs
  | [], vs, h => by
    unfold Reps at h ⊢
    exact h
  | d :: ds, vs, h => by
    unfold Reps at h ⊢
    obtain ⟨v, r, e1, e2, e3⟩ := h
    exact ⟨v, r, e1, Rep.same e e2, Reps.same e e3⟩
end
theorem ty_t {p : Addr} {vs : List V} (h : SqT K H p vs) : TyX K H (.ref p) (.type "tuple") := by
  rcases h with (h | ⟨o, h⟩) | ⟨o, its, n, h, c, _⟩
  · exact .base (.tup h)
  · exact .fTuple h
  · exact .kTuple h c
/-- isinstance of a value of a built-in type -/
theorem isi_go {v : V} {T S : String} {b : Bool} {Q : VK} (h : TyX K H v (.type T)) (k : PySem.W.kitOne K (.type T) (.type S) = some b) (q : Q (.bl b) H) : rIsi K [v, .ty S] H Q := ⟨v, .ty S, _, _, b, rfl, .ty S, h, k, q⟩
end
/-! ### what is a name -/
def nameS (x : Str) : Bool := decide (x.length ≤ 8) && (Txt.isascii x && (Txt.isalpha x && Txt.islower x))
end SF
set_option Elab.async false
set_option linter.all false
set_option maxRecDepth 100000
set_option maxHeartbeats 4000000
/-! steps of a reading, one at a time -/
namespace RD
open PySem PySem.Spec PyProof.Rows L2 G0
section
variable {σ : L2.St} {H : Hp} {Q : VK} {v : V} {ta tb te : TE} {t : TA} {c c1 c2 : TT} {t1 t2 : TS} {D : Ends} {nx : L2.St → Hp → Prop} {rt : VK} {bk ct : L2.St → Hp → Prop} {K : PySem.W.Frag} {QB : Bool → Hp → Prop} {QA : List V → Hp → Prop} {A B : Prop}
theorem seq (h : t1 ⟨t2 D, D.rt, D.bk, D.ct⟩ σ H) : tSeq t1 t2 D σ H := h
theorem next (h : nx σ H) : tNext ⟨nx, rt, bk, ct⟩ σ H := h
theorem ifS (h : c σ H fun b H1 => if b = true then t1 D σ H1 else t2 D σ H1) : tIfS c t1 t2 D σ H := h
theorem ret (h : te σ H rt) : tRet te ⟨nx, rt, bk, ct⟩ σ H := h
theorem retN (h : rt .non H) : tRetN ⟨nx, rt, bk, ct⟩ σ H := h
theorem drop (h : te σ H fun _ H1 => nx σ H1) : tDrop te ⟨nx, rt, bk, ct⟩ σ H := h
theorem asg {g : TG} (h : te σ H fun x H1 => g x σ H1 nx) : tAsg te g ⟨nx, rt, bk, ct⟩ σ H := h
theorem gname {i : Nat} {QS : L2.St → Hp → Prop} (h : QS (σ.set i (some v)) H) : gName i v σ H QS := h
theorem var {i : Nat} (h : σ[i]? = some (some v)) (q : Q v H) : tVar i σ H Q := ⟨v, h, q⟩
theorem c_ (q : Q v H) : tC v σ H Q := q
theorem op {r : R2} (h : ta σ H fun x H1 => tb σ H1 fun y H2 => r x y H2 Q) : tOp r ta tb σ H Q := h
theorem un {r : V → Hp → VK → Prop} (h : ta σ H fun x H1 => r x H1 Q) : tUn r ta σ H Q := h
theorem cb {r : List V → Hp → VK → Prop} (h : t σ H fun vs H1 => r vs H1 Q) : tCB r t σ H Q := h
theorem cons (h : ta σ H fun x H1 => t σ H1 fun xs H2 => QA (x :: xs) H2) : tCons ta t σ H QA := h
theorem nil (h : QA [] H) : tNil σ H QA := h
theorem tup (h : t σ H fun xs H1 => xs.length ≤ sizeLine ∧ ∀ p, H1 p = none → Q (.ref p) (upd H1 p (.tup xs))) : tTup t σ H Q := h
theorem lst (h : t σ H fun xs H1 => xs.length ≤ sizeLine ∧ ∀ p, H1 p = none → Q (.ref p) (upd H1 p (.lst xs))) : tLst t σ H Q := h
theorem B_ (h : ta σ H fun x H1 => ∃ c, x = .bl c ∧ QB c H1) : tB ta σ H QB := h
theorem test (h : ta σ H fun x H1 => ∃ c, x = .bl c ∧ QB c H1) : tTest ta σ H QB := h
theorem exB {b : Bool} {F : Bool → Prop} (q : F b) : ∃ c, V.bl b = V.bl c ∧ F c := ⟨b, rfl, q⟩
theorem exI {i : Int} {F : Int → Prop} (q : F i) : ∃ j, V.int i = V.int j ∧ F j := ⟨i, rfl, q⟩
theorem and_ (h : c1 σ H fun b H1 => if b = true then c2 σ H1 QB else QB false H1) : tAnd c1 c2 σ H QB := h
theorem or_ (h : c1 σ H fun b H1 => if b = true then QB true H1 else c2 σ H1 QB) : tOr c1 c2 σ H QB := h
theorem not_ (h : c1 σ H fun b H1 => QB (!b) H1) : tNot c1 σ H QB := h
theorem andV (h : ta σ H fun x H1 => ∃ c, x = .bl c ∧ if c = true then tb σ H1 Q else Q (.bl false) H1) : tAndV ta tb σ H Q := h
theorem orV (h : ta σ H fun x H1 => ∃ c, x = .bl c ∧ if c = true then Q (.bl true) H1 else tb σ H1 Q) : tOrV ta tb σ H Q := h
theorem notV (h : ta σ H fun x H1 => ∃ c, x = .bl c ∧ Q (.bl (!c)) H1) : tNotV ta σ H Q := h
theorem if_ (h : c σ H fun b H1 => if b = true then ta σ H1 Q else tb σ H1 Q) : tIf c ta tb σ H Q := h
theorem ifT (h : A) : if true = true then A else B := by rw [if_pos rfl]; exact h
instance st_ifT  : BVSt (if true = true then A else B) (A) := ⟨fun h => ifT h⟩
theorem ifF (h : B) : if false = true then A else B := by rw [if_neg Bool.false_ne_true]; exact h
instance st_ifF  : BVSt (if false = true then A else B) (B) := ⟨fun h => ifF h⟩
theorem ifNT (h : B) : if (!true) = true then A else B := ifF h
instance st_ifNT  : BVSt (if (!true) = true then A else B) (B) := ⟨fun h => ifNT h⟩
theorem ifNF (h : A) : if (!false) = true then A else B := ifT h
instance st_ifNF  : BVSt (if (!false) = true then A else B) (A) := ⟨fun h => ifNF h⟩
theorem yes {QT : Bool → Hp → Prop} (h : QT true H) : tYes σ H QT := h
theorem sl {r : V → Option Int → Option Int → Hp → VK → Prop} {tl th : TO} (h : te σ H fun x H1 => tl σ H1 fun l H2 => th σ H2 fun u H3 => r x l u H3 Q) : tSl r te tl th σ H Q := h
theorem noPart {QO : Option Int → Hp → Prop} (h : QO none H) : tNoPart σ H QO := h
theorem part {QO : Option Int → Hp → Prop} (h : te σ H fun x H1 => ∃ i, x = .int i ∧ QO (some i) H1) : tPart te σ H QO := h
theorem i0 {g : Int → Int → V} {i j : Int} (q : Q (g i j) H) : rI0 g (.int i) (.int j) H Q := ⟨i, j, rfl, rfl, q⟩
theorem i1 {C : Int → Int → Prop} {g : Int → Int → V} {i j : Int} (hc : C i j) (q : Q (g i j) H) : rI C g (.int i) (.int j) H Q := ⟨i, j, rfl, rfl, hc, q⟩
theorem eqS {x y : Str} (q : Q (.bl (decide (x = y))) H) : rEq (.str x) (.str y) H Q := ⟨rfl, by
  have e : decide (V.str x = V.str y) = decide (x = y) := decide_eq_decide.mpr ⟨fun z => V.str.inj z, fun z => congrArg V.str z⟩
  rw [e]; exact q⟩
theorem eqI {x y : Int} (q : Q (.bl (decide (x = y))) H) : rEq (.int x) (.int y) H Q := ⟨rfl, by
  have e : decide (V.int x = V.int y) = decide (x = y) := decide_eq_decide.mpr ⟨fun z => V.int.inj z, fun z => congrArg V.int z⟩
  rw [e]; exact q⟩
theorem neI {x y : Int} (q : Q (.bl (!decide (x = y))) H) : rNe (.int x) (.int y) H Q := ⟨rfl, by
  have e : decide (V.int x = V.int y) = decide (x = y) := decide_eq_decide.mpr ⟨fun z => V.int.inj z, fun z => congrArg V.int z⟩
  rw [e]; exact q⟩
theorem neS {x y : Str} (q : Q (.bl (!decide (x = y))) H) : rNe (.str x) (.str y) H Q := ⟨rfl, by
  have e : decide (V.str x = V.str y) = decide (x = y) := decide_eq_decide.mpr ⟨fun z => V.str.inj z, fun z => congrArg V.str z⟩
  rw [e]; exact q⟩
theorem isN_n (q : Q (.bl true) H) : rIsN .non .non H Q := ⟨rfl, q⟩
theorem isN_r {a : Addr} (q : Q (.bl false) H) : rIsN (.ref a) .non H Q := ⟨rfl, q⟩
theorem isN_s {x : Str} (q : Q (.bl false) H) : rIsN (.str x) .non H Q := ⟨rfl, q⟩
theorem isN_b {x : Bool} (q : Q (.bl false) H) : rIsN (.bl x) .non H Q := ⟨rfl, q⟩
theorem isN_i {x : Int} (q : Q (.bl false) H) : rIsN (.int x) .non H Q := ⟨rfl, q⟩
theorem notN_n (q : Q (.bl false) H) : rNotN .non .non H Q := ⟨rfl, q⟩
theorem notN_r {a : Addr} (q : Q (.bl true) H) : rNotN (.ref a) .non H Q := ⟨rfl, q⟩
theorem notN_s {x : Str} (q : Q (.bl true) H) : rNotN (.str x) .non H Q := ⟨rfl, q⟩
theorem call {sp : Sp} {E : XK} (h : t σ H fun vs H1 => sp vs H1 Q E) : tCall sp [] E t σ H Q := by
  have e : (fun (vs : List V) H1 => sp (vs ++ []) H1 Q E) = fun vs H1 => sp vs H1 Q E := by
    funext vs H1
    rw [List.append_nil]
  show t σ H (fun vs H1 => sp (vs ++ []) H1 Q E)
  rw [e]
  exact h
theorem make {C : Addr} {sp : Sp} {E : XK} (h : t σ H fun vs H1 => ∀ x dx, H1 x = none → H1 dx = none → dx ≠ x → sp (.ref x :: vs) (upd (upd H1 dx (.own x)) x (.ins C dx [])) (fun v H2 => v = .non ∧ Q (.ref x) H2) E) : tMake C sp [] E t σ H Q := by
  have e : (fun (vs : List V) H1 => ∀ x dx, H1 x = none → H1 dx = none → dx ≠ x → sp (.ref x :: (vs ++ [])) (upd (upd H1 dx (.own x)) x (.ins C dx [])) (fun v H2 => v = .non ∧ Q (.ref x) H2) E) = fun vs H1 => ∀ x dx, H1 x = none → H1 dx = none → dx ≠ x → sp (.ref x :: vs) (upd (upd H1 dx (.own x)) x (.ins C dx [])) (fun v H2 => v = .non ∧ Q (.ref x) H2) E := by
    funext vs H1
    rw [List.append_nil]
  show t σ H (fun vs H1 => ∀ x dx, H1 x = none → H1 dx = none → dx ≠ x → sp (.ref x :: (vs ++ [])) (upd (upd H1 dx (.own x)) x (.ins C dx [])) (fun v H2 => v = .non ∧ Q (.ref x) H2) E)
  rw [e]
  exact h
theorem unp {n : Nat} {g : TGs} {a : Addr} {xs : List V} {QS : L2.St → Hp → Prop} (h : SqT K H a xs) (hl : xs.length = n) (q : g xs σ H QS) : gTup K n g (.ref a) σ H QS := ⟨a, xs, rfl, h, hl, q⟩
theorem gcons {g : TG} {u : TGs} {r : List V} {QS : L2.St → Hp → Prop} (q : g v σ H fun σ' H' => u r σ' H' QS) : gCons g u (v :: r) σ H QS := ⟨v, r, rfl, q⟩
theorem gnil {QS : L2.St → Hp → Prop} (q : QS σ H) : gNil [] σ H QS := ⟨rfl, q⟩
theorem bm {T : String} {r : V → List V → Hp → VK → Prop} (h : ta σ H fun x H1 => tyV K T x H1 ∧ t σ H1 fun xs H2 => r x xs H2 Q) : tBM K T r ta t σ H Q := h
theorem bm0 {T : String} {r : V → List V → Hp → VK → Prop} (h : ta σ H fun x H1 => tyV K T x H1 ∧ r x [] H1 Q) : tBM0 K T r ta σ H Q := h
theorem ixT {a : Addr} {xs : List V} {i : Int} (h : SqT K H a xs) (e : atI xs i = some v) (q : Q v H) : rIxT K (.ref a) (.int i) H Q := ⟨a, xs, i, v, rfl, rfl, h, e, q⟩
theorem ixL {a : Addr} {xs : List V} {i : Int} (h : SqL K H a xs) (e : atI xs i = some v) (q : Q v H) : rIxL K (.ref a) (.int i) H Q := ⟨a, xs, i, v, rfl, rfl, h, e, q⟩
theorem dget {td ty : TE} (h : td σ H fun x H1 => ty σ H1 fun y H2 => ∃ a v, x = .ref a ∧ DGet H2 a y (some v) ∧ Q v H2) : tDGet td ty σ H Q := h
theorem din {td ty : TE} (h : ty σ H fun y H1 => td σ H1 fun x H2 => ∃ a o, x = .ref a ∧ DGet H2 a y o ∧ Q (.bl o.isSome) H2) : tDIn ty td σ H Q := h
theorem tfld {f : Str} (h : te σ H fun x H1 => ∃ (a : Addr) (C : Addr) (dx : Addr) (fs : List (Str × V)) (v : V), x = .ref a ∧ H1 a = some (.ins C dx fs) ∧ Cls K C ∧ NoAttr K C f ∧ fs.lookup f = some v ∧ Q v H1) : tFld K te f σ H Q := h
theorem then_ {k : V → Hp → VK → Prop} (h : ta σ H fun x H1 => k x H1 Q) : tThen ta k σ H Q := h
theorem aug {i : Nat} {x : V} {ti : TIp} (e : σ[i]? = some (some x)) (h : te σ H fun y H1 => ti x y H1 fun z H2 => nx (σ.set i (some z)) H2) : tAug i te ti ⟨nx, rt, bk, ct⟩ σ H := ⟨x, e, h⟩
theorem chain {r r' : R2} {tc : TE} (h : ta σ H fun x H1 => tb σ H1 fun y H2 => r x y H2 fun z H3 => ∃ k, z = .bl k ∧ if k = true then tc σ H3 fun u H4 => r' y u H4 Q else Q (.bl false) H3) : tChain r r' ta tb tc σ H Q := h
theorem itup {R : It → Hp → Prop} (h : te σ H fun x H1 => ∃ a, x = .ref a ∧ (∃ xs, SqT K H1 a xs) ∧ R (Itt K a) H1) : iTup K te σ H R := h
theorem ilist {R : It → Hp → Prop} (h : te σ H fun x H1 => ∃ a, x = .ref a ∧ (∃ xs, SqL K H1 a xs) ∧ R (Itl K a) H1) : iList K te σ H R := h
theorem lset (h : te σ H fun x H1 => ∃ (l : Addr) (xs : List Str), x = .ref l ∧ SqT K H1 l (xs.map V.str) ∧ xs.length ≤ 4000 ∧ Q (.int (G2.met (fun i => xs.getD i Str.empty) xs.length).length) H1) : tLenSetT K te σ H Q := h
theorem ikeys {td : TE} {R : It → Hp → Prop} (h : td σ H fun x H1 => ∃ d o, x = .ref d ∧ ((∃ kvs, H1 d = some (.frz o (.dK kvs)) ∧ R (Itk d o kvs) H1) ∨ ∃ kvs, H1 d = some (.frz o (.dT kvs)) ∧ R (Itkt d o kvs) H1)) : iKeys td σ H R := h
theorem ivals {td : TE} {R : It → Hp → Prop} (h : td σ H fun x H1 => ∃ d o kvs, x = .ref d ∧ H1 d = some (.frz o (.dK kvs)) ∧ R (Itd d o kvs) H1) : iVals td σ H R := h
theorem iitems {td : TE} {R : It → Hp → Prop} (h : td σ H fun x H1 => ∃ d o kvs, x = .ref d ∧ H1 d = some (.frz o (.dK kvs)) ∧ R (Iti d o kvs) H1) : iItems td σ H R := h
end
end RD
namespace L2
open PySem
/-- what a new object leaves -/
theorem Same.nw {H0 H : Hp} {p : Addr} {o : HO} (e : Same H0 H) (h : H p = none) : Same H0 (upd H p o) := fun b u q => by
  rw [upd_ne (ne_of_none (e b u q) h)]
  exact e b u q
/-- a change of what H0 does not know -/
theorem Same.mt {H0 H : Hp} {p : Addr} {o : HO} (e : Same H0 H) (h : H0 p = none) : Same H0 (upd H p o) := fun b u q => by
  rw [upd_ne (ne_of_none q h)]
  exact e b u q
end L2
namespace SF
open PySem PySem.Spec PyProof.Rows L2 G0
section
variable {K : PySem.W.Frag} {a : Addr} {xs ys : List V} {g : TG} {te : TE} {vs : List Nat} {σ : L2.St} {H1 : Hp} {D : Addr} {Qd : Hp → Prop}
/-- len of a list or a tuple; of a text; of a dict with text keys -/
def rLenQ (K : PySem.W.Frag) : List V → Hp → VK → Prop := fun xs H Q => ∃ p ys, xs = [.ref p] ∧ (SqL K H p ys ∨ SqT K H p ys) ∧ Q (.int (ys.length : Nat)) H
theorem call_lenQ {X : Cx} : CallR X (.builtin "len") (rLenQ X.K) := call_len_seq
theorem lenQt {p : Addr} {ys : List V} {H : Hp} {Q : VK} (h : SqT K H p ys) (q : Q (.int (ys.length : Nat)) H) : rLenQ K [.ref p] H Q := ⟨p, ys, rfl, .inr h, q⟩
theorem lenQl {p : Addr} {ys : List V} {H : Hp} {Q : VK} (h : SqL K H p ys) (q : Q (.int (ys.length : Nat)) H) : rLenQ K [.ref p] H Q := ⟨p, ys, rfl, .inl h, q⟩
def rLenT : List V → Hp → VK → Prop := fun xs H Q => ∃ z : Str, xs = [.str z] ∧ z.length ≤ sizeLine ∧ Q (.int (z.length : Nat)) H
theorem call_lenT {X : Cx} : CallR X (.builtin "len") rLenT := call_len_str
theorem lenTt {z : Str} {H : Hp} {Q : VK} (h : z.length ≤ 1000000) (q : Q (.int (z.length : Nat)) H) : rLenT [.str z] H Q := ⟨z, rfl, Nat.le_trans h (by decide), q⟩
def rLenDk : List V → Hp → VK → Prop := fun xs H Q => ∃ a kvs, xs = [.ref a] ∧ H a = some (.dK kvs) ∧ Q (.int (kvs.length : Nat)) H
theorem call_lenDk {X : Cx} : CallR X (.builtin "len") rLenDk := call_lenD
end
/-- a dict that was locked, and is let go -/
theorem _root_.L2.Same.unlock {H H2 : Hp} {d : Addr} {u : HO} {od : Obj} (e : Same (upd H d (.frz od u)) H2) (h : H d = some u) : Same H (upd H2 d u) := fun b o q => by
  by_cases hb : b = d
  · subst hb
    rw [upd_same, ← h, q]
  · rw [upd_ne hb]
    exact e b o (by rw [upd_ne hb]; exact q)
end SF
set_option Elab.async false
set_option linter.all false
set_option maxRecDepth 100000
set_option maxHeartbeats 4000000
/-! rules of our own: a tuple times 0, 1 or more; xs[i] += e -/
set_option Elab.async false
set_option linter.all false
set_option maxRecDepth 100000
set_option maxHeartbeats 4000000
/-! readings by value: what may come of a reading, told of plain data; the heap stays below -/
namespace BV
open PySem PySem.Spec PyProof.Rows L2 G0
/-- data; src: the state of the draws; xc: a caught exception at a, its dict at d holds f; obj: an instance that stays as it is; dcT: a dict keyed by tuples, while it is a name's own -/
inductive B where
  | non | bl (b : Bool) | int (i : Int) | str (x : Str)
  | tup (ds : List B) | lst (ds : List B) | dct (ks : List Key) (ds : List B)
  | src | raw (v : V)
  | xc (a d : Addr) (f : Str) (b : B)
  | obj (C : Addr) (fs : List Str) (ds : List B)
  | dcT (ks : List (List Key)) (ds : List B)
  /-- an object that changes, of kind t -/
  | mu (t : Nat)
abbrev AS := Addr → Prop
/-- what a state draws from, and its kind: 0 for the state of the draws -/
structure Tg where
  a : Addr
  t : Nat
instance : Coe Tg Addr := ⟨Tg.a⟩
/-- the state of the draws and its list; which dicts a loop walks -/
structure Sr where
  s : Addr → Tg → Prop
  L : AS
def isS (o : Sr) (b : Addr) : Prop := ∃ cl, o.s b cl
/-- a tuple that may be read for ever -/
def TupAt (K : PySem.W.Frag) (Z : AS) (H : Hp) (p : Addr) (vs : List V) : Prop := (H p = some (.tup vs) ∧ ¬ Z p) ∨ ∀ H', SqT K H' p vs
theorem TupAt.sq {K : PySem.W.Frag} {Z : AS} {H : Hp} {p : Addr} {vs : List V} (h : TupAt K Z H p vs) : SqT K H p vs := by
  rcases h with ⟨h, _⟩ | h
  · exact .inl (.inl h)
  · exact h H
mutual
def Rp (K : PySem.W.Frag) (Z : AS) (o : Sr) (H : Hp) : B → V → Prop
  | .non, v => v = .non
  | .bl b, v => v = .bl b
  | .int i, v => v = .int i
  | .str x, v => v = .str x
  | .tup ds, v => ∃ (p : Addr) (vs : List V), v = .ref p ∧ TupAt K Z H p vs ∧ Rps K Z o H ds vs
  | .lst ds, v => ∃ (p : Addr) (vs : List V), v = .ref p ∧ ¬ Z p ∧ H p = some (.lst vs) ∧ Rps K Z o H ds vs
  | .dct ks ds, v => ∃ (p : Addr) (vs : List V), v = .ref p ∧ ¬ Z p ∧ (H p = some (.dK (ks.zip vs)) ∨ (o.L p ∧ ∃ od, H p = some (.frz od (.dK (ks.zip vs))))) ∧ ks.length = vs.length ∧ Rps K Z o H ds vs
  | .src, v => ∃ st cl, o.s st cl ∧ cl.t = 0 ∧ v = .ref st
  | .mu t, v => ∃ st cl, o.s st cl ∧ cl.t = t + 1 ∧ v = .ref st
  | .raw u, v => v = u
  | .xc a d f b, v => v = .ref a ∧ ¬ Z d ∧ ∃ u, H d = some (.xd [(f, u)]) ∧ Rp K Z o H b u
  | .obj C fs ds, v => ∃ (x dx : Addr) (vs : List V), v = .ref x ∧ ¬ Z x ∧ H x = some (.ins C dx (fs.zip vs)) ∧ fs.length = vs.length ∧ Rps K Z o H ds vs
  | .dcT ks ds, v => ∃ (p : Addr) (vs : List V), v = .ref p ∧ ¬ Z p ∧ H p = some (.dT (ks.zip vs)) ∧ ks.length = vs.length ∧ Rps K Z o H ds vs
def Rps (K : PySem.W.Frag) (Z : AS) (o : Sr) (H : Hp) : List B → List V → Prop
  | [], vs => vs = []
  | d :: ds, vs => ∃ v r, vs = v :: r ∧ Rp K Z o H d v ∧ Rps K Z o H ds r
end
section
variable {K : PySem.W.Frag} {Z Z' : AS} {o : Sr} {H H' : Hp}
theorem rps_nil {vs : List V} : Rps K Z o H [] vs ↔ vs = [] := by rw [Rps]
theorem rps_cons {d : B} {ds : List B} {vs : List V} : Rps K Z o H (d :: ds) vs ↔ ∃ v r, vs = v :: r ∧ Rp K Z o H d v ∧ Rps K Z o H ds r := by rw [Rps]
theorem rp_non {v : V} : Rp K Z o H .non v ↔ v = .non := by rw [Rp]
theorem rp_bl {b : Bool} {v : V} : Rp K Z o H (.bl b) v ↔ v = .bl b := by rw [Rp]
theorem rp_int {i : Int} {v : V} : Rp K Z o H (.int i) v ↔ v = .int i := by rw [Rp]
theorem rp_str {x : Str} {v : V} : Rp K Z o H (.str x) v ↔ v = .str x := by rw [Rp]
theorem rp_raw {u : V} {v : V} : Rp K Z o H (.raw u) v ↔ v = u := by rw [Rp]
theorem rp_obj {C : Addr} {fs : List Str} {ds : List B} {v : V} : Rp K Z o H (.obj C fs ds) v ↔ ∃ (x dx : Addr) (vs : List V), v = .ref x ∧ ¬ Z x ∧ H x = some (.ins C dx (fs.zip vs)) ∧ fs.length = vs.length ∧ Rps K Z o H ds vs := by rw [Rp]
theorem rp_dcT {ks : List (List Key)} {ds : List B} {v : V} : Rp K Z o H (.dcT ks ds) v ↔ ∃ (p : Addr) (vs : List V), v = .ref p ∧ ¬ Z p ∧ H p = some (.dT (ks.zip vs)) ∧ ks.length = vs.length ∧ Rps K Z o H ds vs := by rw [Rp]
theorem rp_xc {a d : Addr} {f : Str} {b : B} {v : V} : Rp K Z o H (.xc a d f b) v ↔ v = .ref a ∧ ¬ Z d ∧ ∃ u, H d = some (.xd [(f, u)]) ∧ Rp K Z o H b u := by rw [Rp]
theorem rp_src {v : V} : Rp K Z o H .src v ↔ ∃ st cl, o.s st cl ∧ cl.t = 0 ∧ v = .ref st := by rw [Rp]
theorem rp_mu {t : Nat} {v : V} : Rp K Z o H (.mu t) v ↔ ∃ st cl, o.s st cl ∧ cl.t = t + 1 ∧ v = .ref st := by rw [Rp]
theorem rp_tup {ds : List B} {v : V} : Rp K Z o H (.tup ds) v ↔ ∃ (p : Addr) (vs : List V), v = .ref p ∧ TupAt K Z H p vs ∧ Rps K Z o H ds vs := by rw [Rp]
theorem rp_lst {ds : List B} {v : V} : Rp K Z o H (.lst ds) v ↔ ∃ (p : Addr) (vs : List V), v = .ref p ∧ ¬ Z p ∧ H p = some (.lst vs) ∧ Rps K Z o H ds vs := by rw [Rp]
theorem rp_dct {ks : List Key} {ds : List B} {v : V} : Rp K Z o H (.dct ks ds) v ↔ ∃ (p : Addr) (vs : List V), v = .ref p ∧ ¬ Z p ∧ (H p = some (.dK (ks.zip vs)) ∨ (o.L p ∧ ∃ od, H p = some (.frz od (.dK (ks.zip vs))))) ∧ ks.length = vs.length ∧ Rps K Z o H ds vs := by rw [Rp]
theorem rps_len : ∀ {ds : List B} {vs : List V}, Rps K Z o H ds vs → ds.length = vs.length
  | [], vs, h => by rw [rps_nil.mp h]; rfl
  | d :: ds, vs, h => by
    obtain ⟨v, r, rfl, _, h2⟩ := rps_cons.mp h
    rw [List.length_cons, List.length_cons, rps_len h2]
theorem rps_at : ∀ {ds : List B} {vs : List V} {i : Nat} {d : B}, Rps K Z o H ds vs → ds[i]? = some d → ∃ v, vs[i]? = some v ∧ Rp K Z o H d v
  | [], vs, i, d, h, e => by simp at e
  | d :: ds, vs, 0, d', h, e => by
    obtain ⟨w, r, rfl, h1, h2⟩ := rps_cons.mp h
    have : d = d' := by simpa using e
    subst this
    exact ⟨w, rfl, h1⟩
  | d :: ds, vs, i + 1, d', h, e => by
    obtain ⟨w, r, rfl, h1, h2⟩ := rps_cons.mp h
    obtain ⟨v, a, b⟩ := rps_at (i := i) (d := d') h2 (by simpa using e)
    exact ⟨v, by simpa using a, b⟩
theorem rps_atv : ∀ {ds : List B} {vs : List V} {i : Nat} {v : V}, Rps K Z o H ds vs → vs[i]? = some v → ∃ d, ds[i]? = some d ∧ Rp K Z o H d v
  | [], vs, i, v, h, e => by rw [rps_nil.mp h] at e; simp at e
  | d :: ds, vs, 0, v, h, e => by
    obtain ⟨w, r, rfl, h1, h2⟩ := rps_cons.mp h
    have : w = v := by simpa using e
    subst this
    exact ⟨d, rfl, h1⟩
  | d :: ds, vs, i + 1, v, h, e => by
    obtain ⟨w, r, rfl, h1, h2⟩ := rps_cons.mp h
    obtain ⟨d', a, b⟩ := rps_atv (i := i) (v := v) h2 (by simpa using e)
    exact ⟨d', by simpa using a, b⟩
theorem rps_app : ∀ {ds es : List B} {vs ws : List V}, Rps K Z o H ds vs → Rps K Z o H es ws → Rps K Z o H (ds ++ es) (vs ++ ws)
  | [], es, vs, ws, h, k => by rw [rps_nil.mp h]; exact k
  | d :: ds, es, vs, ws, h, k => by
    obtain ⟨v, r, rfl, h1, h2⟩ := rps_cons.mp h
    exact rps_cons.mpr ⟨v, r ++ ws, rfl, h1, rps_app h2 k⟩
theorem rps_one {d : B} {v : V} (h : Rp K Z o H d v) : Rps K Z o H [d] [v] := rps_cons.mpr ⟨v, [], rfl, h, rps_nil.mpr rfl⟩
theorem rps_take : ∀ {ds : List B} {vs : List V} (n : Nat), Rps K Z o H ds vs → Rps K Z o H (ds.take n) (vs.take n)
  | [], vs, n, h => by
    rw [rps_nil.mp h, List.take_nil, List.take_nil]
    exact rps_nil.mpr rfl
  | d :: ds, vs, 0, h => rps_nil.mpr rfl
  | d :: ds, vs, n + 1, h => by
    obtain ⟨v, r, rfl, h1, h2⟩ := rps_cons.mp h
    exact rps_cons.mpr ⟨v, r.take n, rfl, h1, rps_take n h2⟩
theorem rps_drop : ∀ {ds : List B} {vs : List V} (n : Nat), Rps K Z o H ds vs → Rps K Z o H (ds.drop n) (vs.drop n)
  | [], vs, n, h => by
    rw [rps_nil.mp h, List.drop_nil, List.drop_nil]
    exact rps_nil.mpr rfl
  | d :: ds, vs, 0, h => h
  | d :: ds, vs, n + 1, h => by
    obtain ⟨v, r, rfl, h1, h2⟩ := rps_cons.mp h
    exact rps_drop n h2
theorem rps_set : ∀ {ds : List B} {vs : List V} {i : Nat} {d : B} {v : V}, Rps K Z o H ds vs → Rp K Z o H d v → Rps K Z o H (ds.set i d) (vs.set i v)
  | [], vs, i, d, v, h, k => by rw [rps_nil.mp h]; exact rps_nil.mpr rfl
  | e :: ds, vs, 0, d, v, h, k => by
    obtain ⟨w, r, rfl, h1, h2⟩ := rps_cons.mp h
    exact rps_cons.mpr ⟨v, r, rfl, k, h2⟩
  | e :: ds, vs, i + 1, d, v, h, k => by
    obtain ⟨w, r, rfl, h1, h2⟩ := rps_cons.mp h
    exact rps_cons.mpr ⟨w, _, rfl, h1, rps_set h2 k⟩
mutual
/-- off Z nothing changes -/
theorem Rp.off (e : ∀ b u, (¬ Z b ∨ isS o b) → ¬ Z b → H b = some u → H' b = some u) : ∀ {d : B} {v : V}, Rp K Z o H d v → Rp K Z o H' d v
  | .non, v, h => by rw [rp_non] at h ⊢; exact h
  | .bl _, v, h => by rw [rp_bl] at h ⊢; exact h
  | .int _, v, h => by rw [rp_int] at h ⊢; exact h
  | .str _, v, h => by rw [rp_str] at h ⊢; exact h
  | .raw _, v, h => by rw [rp_raw] at h ⊢; exact h
  | .src, v, h => by rw [rp_src] at h ⊢; exact h
  | .mu _, v, h => by rw [rp_mu] at h ⊢; exact h
  | .tup ds, v, h => by
    obtain ⟨p, vs, rfl, h1, h2⟩ := rp_tup.mp h
    refine rp_tup.mpr ⟨p, vs, rfl, ?_, Rps.off e h2⟩
    rcases h1 with ⟨h1, hz⟩ | h1
    · exact .inl ⟨e _ _ (.inl hz) hz h1, hz⟩
    · exact .inr h1
  | .lst ds, v, h => by
    obtain ⟨p, vs, rfl, hz, h1, h2⟩ := rp_lst.mp h
    exact rp_lst.mpr ⟨p, vs, rfl, hz, e _ _ (.inl hz) hz h1, Rps.off e h2⟩
  | .dct ks ds, v, h => by
    obtain ⟨p, vs, rfl, hz, h1, hl, h2⟩ := rp_dct.mp h
    refine rp_dct.mpr ⟨p, vs, rfl, hz, ?_, hl, Rps.off e h2⟩
    rcases h1 with h1 | ⟨hL, od, h1⟩
    · exact .inl (e _ _ (.inl hz) hz h1)
    · exact .inr ⟨hL, od, e _ _ (.inl hz) hz h1⟩
  | .xc a d f b, v, h => by
    obtain ⟨rfl, hz, u, h1, h2⟩ := rp_xc.mp h
    exact rp_xc.mpr ⟨rfl, hz, u, e _ _ (.inl hz) hz h1, Rp.off e h2⟩
  | .obj C fs ds, v, h => by
    obtain ⟨x, dx, vs, rfl, hz, h1, hl, h2⟩ := rp_obj.mp h
    exact rp_obj.mpr ⟨x, dx, vs, rfl, hz, e _ _ (.inl hz) hz h1, hl, Rps.off e h2⟩
  | .dcT ks ds, v, h => by
    obtain ⟨p, vs, rfl, hz, h1, hl, h2⟩ := rp_dcT.mp h
    exact rp_dcT.mpr ⟨p, vs, rfl, hz, e _ _ (.inl hz) hz h1, hl, Rps.off e h2⟩
theorem Rps.off (e : ∀ b u, (¬ Z b ∨ isS o b) → ¬ Z b → H b = some u → H' b = some u) : ∀ {ds : List B} {vs : List V}, Rps K Z o H ds vs → Rps K Z o H' ds vs
  | [], vs, h => by rw [rps_nil] at h ⊢; exact h
  | d :: ds, vs, h => by
    obtain ⟨v, r, rfl, h1, h2⟩ := rps_cons.mp h
    exact rps_cons.mpr ⟨v, r, rfl, Rp.off e h1, Rps.off e h2⟩
end
mutual
/-- what may change becomes other -/
theorem Rp.mv (e : ∀ b, ¬ Z b → H b ≠ none → ¬ Z' b) : ∀ {d : B} {v : V}, Rp K Z o H d v → Rp K Z' o H d v
  | .non, v, h => by rw [rp_non] at h ⊢; exact h
  | .bl _, v, h => by rw [rp_bl] at h ⊢; exact h
  | .int _, v, h => by rw [rp_int] at h ⊢; exact h
  | .str _, v, h => by rw [rp_str] at h ⊢; exact h
  | .raw _, v, h => by rw [rp_raw] at h ⊢; exact h
  | .src, v, h => by rw [rp_src] at h ⊢; exact h
  | .mu _, v, h => by rw [rp_mu] at h ⊢; exact h
  | .tup ds, v, h => by
    obtain ⟨p, vs, rfl, h1, h2⟩ := rp_tup.mp h
    refine rp_tup.mpr ⟨p, vs, rfl, ?_, Rps.mv e h2⟩
    rcases h1 with ⟨h1, hz⟩ | h1
    · exact .inl ⟨h1, e _ hz (by rw [h1]; exact fun z => nomatch z)⟩
    · exact .inr h1
  | .lst ds, v, h => by
    obtain ⟨p, vs, rfl, hz, h1, h2⟩ := rp_lst.mp h
    exact rp_lst.mpr ⟨p, vs, rfl, e _ hz (by rw [h1]; exact fun z => nomatch z), h1, Rps.mv e h2⟩
  | .dct ks ds, v, h => by
    obtain ⟨p, vs, rfl, hz, h1, hl, h2⟩ := rp_dct.mp h
    refine rp_dct.mpr ⟨p, vs, rfl, e _ hz ?_, h1, hl, Rps.mv e h2⟩
    rcases h1 with h1 | ⟨hL, od, h1⟩ <;> (rw [h1]; exact fun z => nomatch z)
  | .xc a d f b, v, h => by
    obtain ⟨rfl, hz, u, h1, h2⟩ := rp_xc.mp h
    exact rp_xc.mpr ⟨rfl, e _ hz (by rw [h1]; exact fun z => nomatch z), u, h1, Rp.mv e h2⟩
  | .obj C fs ds, v, h => by
    obtain ⟨x, dx, vs, rfl, hz, h1, hl, h2⟩ := rp_obj.mp h
    exact rp_obj.mpr ⟨x, dx, vs, rfl, e _ hz (by rw [h1]; exact fun z => nomatch z), h1, hl, Rps.mv e h2⟩
  | .dcT ks ds, v, h => by
    obtain ⟨p, vs, rfl, hz, h1, hl, h2⟩ := rp_dcT.mp h
    exact rp_dcT.mpr ⟨p, vs, rfl, e _ hz (by rw [h1]; exact fun z => nomatch z), h1, hl, Rps.mv e h2⟩
theorem Rps.mv (e : ∀ b, ¬ Z b → H b ≠ none → ¬ Z' b) : ∀ {ds : List B} {vs : List V}, Rps K Z o H ds vs → Rps K Z' o H ds vs
  | [], vs, h => by rw [rps_nil] at h ⊢; exact h
  | d :: ds, vs, h => by
    obtain ⟨v, r, rfl, h1, h2⟩ := rps_cons.mp h
    exact rps_cons.mpr ⟨v, r, rfl, Rp.mv e h1, Rps.mv e h2⟩
end
/-- all but the state of the draws stays -/
def Kp (o : Sr) (H H' : Hp) : Prop := ∀ b u, ¬ isS o b → H b = some u → H' b = some u
theorem Kp.refl : Kp o H H := fun _ _ _ h => h
theorem Kp.trans {H2 : Hp} (a : Kp o H H') (b : Kp o H' H2) : Kp o H H2 := fun c u n h => b c u n (a c u n h)
theorem Kp.same (e : Same H H') : Kp o H H' := fun b u _ h => e b u h
theorem Kp.nw {p : Addr} {u : HO} (e : Kp o H H') (h : H' p = none) : Kp o H (upd H' p u) := fun b v n hb => by
  have := e b v n hb
  rw [upd_ne (ne_of_none this h)]
  exact this
theorem Kp.mt {p : Addr} {u : HO} (e : Kp o H H') (h : H p = none) : Kp o H (upd H' p u) := fun b v n hb => by
  rw [upd_ne (ne_of_none hb h)]
  exact e b v n hb
theorem Rp.kp {d : B} {v : V} (h : Rp K Z o H d v) (zs : ∀ st, isS o st → Z st) (e : Kp o H H') : Rp K Z o H' d v := h.off fun b u _ n hb => e b u (fun z => n (zs _ z)) hb
theorem Rps.kp {ds : List B} {vs : List V} (h : Rps K Z o H ds vs) (zs : ∀ st, isS o st → Z st) (e : Kp o H H') : Rps K Z o H' ds vs := h.off fun b u _ n hb => e b u (fun z => n (zs _ z)) hb
theorem Rp.less {d : B} {v : V} (h : Rp K Z o H d v) (e : ∀ b, Z' b → Z b) : Rp K Z' o H d v := h.mv fun b n _ z => n (e b z)
theorem Rps.less {ds : List B} {vs : List V} (h : Rps K Z o H ds vs) (e : ∀ b, Z' b → Z b) : Rps K Z' o H ds vs := h.mv fun b n _ z => n (e b z)
end
/-! ### where one stands -/
/-- what a state draws from: a list; an object's own dict -/
def clO : HO → Prop
  | .lst _ => True
  | .own _ => True
  | _ => False
/-- a state of draws: the state, and the list it draws from -/
structure DK where
  D : Hp → Addr → Tg → Prop
  off : ∀ {H H' : Hp} {st : Addr} {cl : Tg}, D H st cl → H' st = H st → H' cl.a = H cl.a → D H' st cl
  st : ∀ {H : Hp} {st : Addr} {cl : Tg}, D H st cl → H st ≠ none
  cl : ∀ {H : Hp} {st : Addr} {cl : Tg}, D H st cl → ∃ u, H cl.a = some u ∧ clO u
  ne : ∀ {H : Hp} {st : Addr} {cl : Tg}, D H st cl → cl.a ≠ st
  /-- no loop walks a dict now -/
  U : Prop
  /-- .. or those that are walked have entries, and no flat values -/
  UF : Prop := True
  /-- what may be said of where a def started: its heap, what may not be shared, the state -/
  wok : Hp → AS → Sr → Prop := fun _ _ _ => True
def DK.lo (G : DK) : DK := { G with U := False, UF := False, wok := fun _ _ _ => True }
inductive Cell where
  | no | sh (b : B) | ow (b : B)
structure Wd where
  H0 : Hp
  Z0 : AS
  o : Sr
  T : List (B × V)
  T2 : List (Addr × HO)
  HX : Hp
  ZX : AS
def ownA (Γ : List Cell) (σ : L2.St) (p : Addr) : Prop := ∃ (i : Nat) (b : B), Γ[i]? = some (Cell.ow b) ∧ σ[i]? = some (some (V.ref p))
def ZZ (W : Wd) (Γ : List Cell) (σ : L2.St) : AS := fun p => W.Z0 p ∨ ownA Γ σ p
def OwAt (K : PySem.W.Frag) (Z : AS) (o : Sr) (H : Hp) (p : Addr) : B → Prop
  | .lst ds => ∃ vs, H p = some (.lst vs) ∧ Rps K Z o H ds vs
  | .dct ks ds => ∃ vs, H p = some (.dK (ks.zip vs)) ∧ ks.length = vs.length ∧ Rps K Z o H ds vs
  | .dcT ks ds => ∃ vs, H p = some (.dT (ks.zip vs)) ∧ ks.length = vs.length ∧ Rps K Z o H ds vs
  | _ => False
def DOk (G : DK) (W : Wd) (H : Hp) : Prop := ∀ st cl, W.o.s st cl → G.D H st cl
/-- a dict that is walked has entries, and no flat values -/
def LkF (o : Sr) (H : Hp) (p : Addr) : Prop := ¬ isS o p ∧ ∃ (od : Obj) (kvs : List (Key × V)), H p = some (.frz od (.dK kvs)) ∧ kvs ≠ [] ∧ ∀ q ∈ kvs, ∃ a, q.2 = V.ref a
def LK (G : DK) (H0 : Hp) (o : Sr) (H : Hp) : Prop := (G.U → ∀ p, ¬ o.L p) ∧ (G.UF → ∀ p, o.L p → H0 p ≠ none ∧ LkF o H p)
theorem LK.mv {G : DK} {H0 H H' : Hp} {o : Sr} (h : LK G H0 o H) (e : ∀ p u, ¬ isS o p → H0 p ≠ none → H p = some u → H' p = some u) : LK G H0 o H' := ⟨h.1, fun u p hp => by
  obtain ⟨a, b, od, kvs, c, d⟩ := h.2 u p hp
  exact ⟨a, b, od, kvs, e p _ b a c, d⟩⟩
theorem LK.base {G : DK} {H0 H : Hp} {o : Sr} (h : LK G H0 o H) : LK G H o H := ⟨h.1, fun u p hp => by
  obtain ⟨a, b, od, kvs, c, d⟩ := h.2 u p hp
  exact ⟨by rw [c]; exact fun z => (nomatch z), b, od, kvs, c, d⟩⟩
structure Env (G : DK) (K : PySem.W.Frag) (W : Wd) (Γ : List Cell) (σ : L2.St) (H : Hp) : Prop where
  len : Γ.length = σ.length
  dok : DOk G W H
  src : ∀ st cl, W.o.s st cl → W.Z0 st ∧ ¬ ZZ W Γ σ cl
  kp : Kp W.o W.H0 H
  zt : ∀ p, W.Z0 p → H p ≠ none
  tmp : ∀ b v, (b, v) ∈ W.T → Rp K (ZZ W Γ σ) W.o H b v
  sh : ∀ (i : Nat) (b : B), Γ[i]? = some (Cell.sh b) → ∃ v : V, σ[i]? = some (some v) ∧ Rp K (ZZ W Γ σ) W.o H b v
  ow : ∀ (i : Nat) (b : B), Γ[i]? = some (Cell.ow b) → ∃ p : Addr, σ[i]? = some (some (V.ref p)) ∧ W.H0 p = none ∧ ¬ W.Z0 p ∧ OwAt K (ZZ W Γ σ) W.o H p b
  dis : ∀ (i j : Nat) (b c : B) (p : Addr), Γ[i]? = some (Cell.ow b) → Γ[j]? = some (Cell.ow c) → σ[i]? = some (some (V.ref p)) → σ[j]? = some (some (V.ref p)) → i = j
  lk : LK G W.H0 W.o H
  wok : G.wok W.HX W.ZX W.o
  kx : Kp W.o W.HX W.H0
  zx : ∀ p, W.ZX p → W.Z0 p ∧ W.H0 p ≠ none
  tm2 : ∀ a u, (a, u) ∈ W.T2 → H a = some u ∧ ¬ ZZ W Γ σ a
section
variable {G : DK} {K : PySem.W.Frag} {W : Wd} {Γ : List Cell} {σ : L2.St} {H H' : Hp}
theorem OwAt.some {Z : AS} {o : Sr} {p : Addr} {b : B} (h : OwAt K Z o H p b) : H p ≠ none := by
  cases b <;> first
    | exact h.elim
    | (obtain ⟨vs, h, _⟩ := h
       rw [h]
       exact fun z => nomatch z)
theorem OwAt.kp {Z : AS} {o : Sr} {p : Addr} {b : B} (h : OwAt K Z o H p b) (zs : ∀ st, isS o st → Z st) (hp : ¬ isS o p) (e : Kp o H H') : OwAt K Z o H' p b := by
  cases b <;> first
    | exact h.elim
    | (obtain ⟨vs, h, h2⟩ := h
       exact ⟨vs, e _ _ hp h, h2.kp zs e⟩)
    | (obtain ⟨vs, h, hl, h2⟩ := h
       exact ⟨vs, e _ _ hp h, hl, h2.kp zs e⟩)
theorem OwAt.mv {Z Z' : AS} {o : Sr} {p : Addr} {b : B} (h : OwAt K Z o H p b) (e : ∀ b, ¬ Z b → H b ≠ none → ¬ Z' b) : OwAt K Z' o H p b := by
  cases b <;> first
    | exact h.elim
    | (obtain ⟨vs, h, h2⟩ := h
       exact ⟨vs, h, h2.mv e⟩)
    | (obtain ⟨vs, h, hl, h2⟩ := h
       exact ⟨vs, h, hl, h2.mv e⟩)
/-- .. as a value that is read, if it is among what may change no more -/
theorem OwAt.rp {Z : AS} {o : Sr} {p : Addr} {b : B} (h : OwAt K Z o H p b) (hz : ¬ Z p) : Rp K Z o H b (.ref p) := by
  cases b with
  | lst ds =>
    obtain ⟨vs, h, h2⟩ := h
    exact rp_lst.mpr ⟨p, vs, rfl, hz, h, h2⟩
  | dct ks ds =>
    obtain ⟨vs, h, hl, h2⟩ := h
    exact rp_dct.mpr ⟨p, vs, rfl, hz, .inl h, hl, h2⟩
  | dcT ks ds =>
    obtain ⟨vs, h, hl, h2⟩ := h
    exact rp_dcT.mpr ⟨p, vs, rfl, hz, h, hl, h2⟩
  | _ => exact h.elim
theorem Env.zs (E : Env G K W Γ σ H) : ∀ st, isS W.o st → ZZ W Γ σ st := fun st ⟨cl, e⟩ => .inl (E.src st cl e).1
theorem Env.zz (E : Env G K W Γ σ H) : ∀ p, ZZ W Γ σ p → H p ≠ none := fun p h => by
  rcases h with h | ⟨i, b, h1, h2⟩
  · exact E.zt p h
  · obtain ⟨q, e1, _, _, h3⟩ := E.ow i b h1
    rw [h2] at e1
    cases e1
    exact h3.some
theorem Env.noS (E : Env G K W Γ σ H) {i : Nat} {b : B} {p : Addr} (h1 : Γ[i]? = some (.ow b)) (h2 : σ[i]? = some (some (.ref p))) : ¬ isS W.o p := fun z => by
  obtain ⟨q, e1, _, hz, _⟩ := E.ow i b h1
  rw [h2] at e1
  cases e1
  obtain ⟨cl, z⟩ := z
  exact hz (E.src p cl z).1
/-- a step that keeps all -/
theorem Env.step (E : Env G K W Γ σ H) (e : Kp W.o H H') (d : DOk G W H') : Env G K W Γ σ H' where
  len := E.len
  dok := d
  src := E.src
  kp := E.kp.trans e
  zt := fun p hz => by
    by_cases hs : isS W.o p
    · obtain ⟨cl, hs⟩ := hs
      exact G.st (d p cl hs)
    · have := E.zt p hz
      cases h : H p with
      | none => exact absurd h this
      | some u =>
        rw [e p u hs h]
        exact fun z => nomatch z
  tmp := fun b v h => (E.tmp b v h).kp E.zs e
  sh := fun i b h => by
    obtain ⟨v, h1, h2⟩ := E.sh i b h
    exact ⟨v, h1, h2.kp E.zs e⟩
  ow := fun i b h => by
    obtain ⟨p, h1, h2, h3, h4⟩ := E.ow i b h
    exact ⟨p, h1, h2, h3, h4.kp E.zs (E.noS h h1) e⟩
  dis := E.dis
  lk := E.lk.mv fun p u hs _ hp => e p u hs hp
  wok := E.wok
  kx := E.kx
  zx := E.zx
  tm2 := fun a u h => ⟨e _ _ (fun z => (E.tm2 a u h).2 (E.zs a z)) (E.tm2 a u h).1, (E.tm2 a u h).2⟩
theorem DOk.same (d : DOk G W H) (e : Same H H') : DOk G W H' := fun st cl h => by
  have hd := d st cl h
  refine G.off hd ?_ ?_
  · cases q : H st with
    | none => exact absurd q (G.st hd)
    | some u => exact e _ _ q
  · obtain ⟨xs, q, _⟩ := G.cl hd
    rw [q]
    exact e _ _ q
theorem Env.same (E : Env G K W Γ σ H) (e : Same H H') : Env G K W Γ σ H' := E.step (Kp.same e) (E.dok.same e)
/-- a new object -/
theorem Env.nw (E : Env G K W Γ σ H) {p : Addr} {u : HO} (h : H p = none) : Env G K W Γ σ (upd H p u) := E.same ((Same.refl H).nw h)
theorem Env.fresh (E : Env G K W Γ σ H) {p : Addr} (h : H p = none) : W.H0 p = none ∧ ¬ ZZ W Γ σ p ∧ ¬ isS W.o p := by
  have hz : ¬ ZZ W Γ σ p := fun z => E.zz p z h
  have hs : ¬ isS W.o p := fun z => hz (E.zs p z)
  refine ⟨?_, hz, hs⟩
  cases q : W.H0 p with
  | none => rfl
  | some u =>
    rw [E.kp p u hs q] at h
    cases h
theorem own_set {i : Nat} {b : B} {ov : Option V} {p : Addr} (h : ownA (Γ.set i (.sh b)) (σ.set i ov) p) : ownA Γ σ p := by
  obtain ⟨j, c, h1, h2⟩ := h
  by_cases hj : i = j
  · subst hj
    rw [List.getElem?_set] at h1
    simp at h1
  · rw [List.getElem?_set_ne hj] at h1 h2
    exact ⟨j, c, h1, h2⟩
/-- a name gets a value -/
theorem Env.set (E : Env G K W Γ σ H) {i : Nat} {b : B} {v : V} (h : Rp K (ZZ W Γ σ) W.o H b v) : Env G K W (Γ.set i (.sh b)) (σ.set i (some v)) H := by
  have ls : ∀ p, ZZ W (Γ.set i (.sh b)) (σ.set i (some v)) p → ZZ W Γ σ p := fun p z => z.imp id own_set
  have ix : ∀ {j : Nat} {c : Cell}, (Γ.set i (.sh b))[j]? = some c → i ≠ j → Γ[j]? = some c ∧ (σ.set i (some v))[j]? = σ[j]? := fun {j c} h hj => by
    rw [List.getElem?_set_ne hj] at h
    exact ⟨h, List.getElem?_set_ne hj⟩
  have ow : ∀ {j : Nat} {c : B}, (Γ.set i (.sh b))[j]? = some (.ow c) → Γ[j]? = some (.ow c) ∧ (σ.set i (some v))[j]? = σ[j]? := fun {j c} h => by
    by_cases hj : i = j
    · subst hj
      rw [List.getElem?_set] at h
      simp at h
    · exact ix h hj
  refine ⟨by rw [List.length_set, List.length_set, E.len], E.dok, fun st cl e => ⟨(E.src st cl e).1, fun z => (E.src st cl e).2 (ls _ z)⟩, E.kp, E.zt, fun c u hc => (E.tmp c u hc).less ls, fun j c hc => ?_, fun j c hc => ?_, fun j k c d p h1 h2 h3 h4 => ?_, E.lk, E.wok, E.kx, E.zx, fun a u h => ⟨(E.tm2 a u h).1, fun z => (E.tm2 a u h).2 (ls _ z)⟩⟩
  · by_cases hj : i = j
    · subst hj
      have hi : i < Γ.length := by
        have := (List.getElem?_eq_some_iff.mp hc).1
        rwa [List.length_set] at this
      rw [List.getElem?_set_self hi] at hc
      cases hc
      exact ⟨v, List.getElem?_set_self (by rw [← E.len]; exact hi), h.less ls⟩
    · obtain ⟨h1, h2⟩ := ix hc hj
      obtain ⟨u, e1, e2⟩ := E.sh j c h1
      exact ⟨u, h2.trans e1, e2.less ls⟩
  · obtain ⟨h1, h2⟩ := ow hc
    obtain ⟨p, e1, e2, e3, e4⟩ := E.ow j c h1
    exact ⟨p, h2.trans e1, e2, e3, e4.mv fun b n _ z => n (ls b z)⟩
  · obtain ⟨a1, a2⟩ := ow h1
    obtain ⟨b1, b2⟩ := ow h2
    exact E.dis j k c d p a1 b1 (a2 ▸ h3) (b2 ▸ h4)
/-- .. with one thing more that may change -/
def Wd.plus (W : Wd) (p : Addr) : Wd := { W with Z0 := fun q => W.Z0 q ∨ q = p }
theorem zz_plus {p q : Addr} : ZZ (W.plus p) Γ σ q ↔ ZZ W Γ σ q ∨ q = p := by
  constructor
  · rintro ((h | h) | h)
    · exact .inl (.inl h)
    · exact .inr h
    · exact .inl (.inr h)
  · rintro ((h | h) | h)
    · exact .inl (.inl h)
    · exact .inr h
    · exact .inl (.inr h)
theorem Env.plus (E : Env G K W Γ σ H) {p : Addr} (h : H p = none) {u : HO} : Env G K (W.plus p) Γ σ (upd H p u) := by
  have E2 := E.nw (u := u) h
  obtain ⟨f1, f2, f3⟩ := E.fresh h
  have mvt : ∀ b, ¬ ZZ W Γ σ b → H b ≠ none → ¬ ZZ (W.plus p) Γ σ b := fun b n hb z => (zz_plus.mp z).elim n fun e => hb (by rw [e]; exact h)
  have kk : Kp W.o H (upd H p u) := (Kp.refl).nw h
  have zs' : ∀ st, isS W.o st → ZZ (W.plus p) Γ σ st := fun st z => zz_plus.mpr (.inl (E.zs st z))
  refine ⟨E.len, E2.dok, fun st cl e => ⟨.inl (E.src st cl e).1, fun z => (zz_plus.mp z).elim (E.src st cl e).2 fun e2 => ?_⟩, E2.kp, fun q hq => ?_, fun b v hb => ((E.tmp b v hb).mv mvt).kp zs' kk, fun i b hb => ?_, fun i b hb => ?_, E.dis, E.lk.mv (fun q v _ _ hq => by rw [upd_ne (ne_of_none hq h)]; exact hq), E.wok, E.kx, fun q z => ⟨.inl (E.zx q z).1, (E.zx q z).2⟩, fun a u h' => ⟨by rw [upd_ne (ne_of_none (E.tm2 a u h').1 h)]; exact (E.tm2 a u h').1, fun z => (zz_plus.mp z).elim (E.tm2 a u h').2 fun e => ne_of_none (E.tm2 a u h').1 h e⟩⟩
  · obtain ⟨xs, q, _⟩ := G.cl (E.dok st cl e)
    rw [e2, h] at q
    cases q
  · rcases hq with hq | hq
    · exact E2.zt q hq
    · rw [show q = p from hq, upd_same]
      exact fun z => nomatch z
  · obtain ⟨v, h1, h2⟩ := E.sh i b hb
    exact ⟨v, h1, (h2.mv mvt).kp zs' kk⟩
  · obtain ⟨q, h1, h2, h3, h4⟩ := E.ow i b hb
    refine ⟨q, h1, h2, fun z => z.elim h3 fun e => ?_, (h4.mv mvt).kp zs' (E.noS hb h1) kk⟩
    exact h4.some (by rw [show q = p from e]; exact h)
/-- .. it changes -/
theorem Env.put {p : Addr} (E : Env G K (W.plus p) Γ σ H) (h0 : W.H0 p = none) (hs : ¬ isS W.o p) (ho : ¬ ownA Γ σ p) {u : HO} : Env G K (W.plus p) Γ σ (upd H p u) := by
  have off : ∀ b v, (¬ ZZ (W.plus p) Γ σ b ∨ isS W.o b) → ¬ ZZ (W.plus p) Γ σ b → H b = some v → upd H p u b = some v := fun b v _ n hb => by
    rw [upd_ne fun e => n (zz_plus.mpr (.inr e))]
    exact hb
  refine ⟨E.len, fun st cl e => G.off (E.dok st cl e) (upd_ne fun z => hs (by rw [← z]; exact ⟨cl, e⟩)) (upd_ne fun z => (E.src st cl e).2 (zz_plus.mpr (.inr z))), E.src, E.kp.mt h0, fun q hq => ?_, fun b v h => (E.tmp b v h).off off, fun i b h => ?_, fun i b h => ?_, E.dis, E.lk.mv (fun q v _ hq0 hq => by rw [upd_ne fun e => hq0 (by rw [e]; exact h0)]; exact hq), E.wok, E.kx, E.zx, fun a v h => ⟨by rw [upd_ne fun e => (E.tm2 a v h).2 (zz_plus.mpr (.inr e))]; exact (E.tm2 a v h).1, (E.tm2 a v h).2⟩⟩
  · by_cases e : q = p
    · rw [e, upd_same]
      exact fun z => nomatch z
    · rw [upd_ne e]
      exact E.zt q hq
  · obtain ⟨v, h1, h2⟩ := E.sh i b h
    exact ⟨v, h1, h2.off off⟩
  · obtain ⟨q, h1, h2, h3, h4⟩ := E.ow i b h
    have hq : q ≠ p := fun e => ho ⟨i, b, h, by rw [← e]; exact h1⟩
    refine ⟨q, h1, h2, h3, ?_⟩
    cases b <;> first
      | exact h4.elim
      | (obtain ⟨vs, a, b⟩ := h4
         exact ⟨vs, (upd_ne hq).trans a, b.off off⟩)
      | (obtain ⟨vs, a, hl, b⟩ := h4
         exact ⟨vs, (upd_ne hq).trans a, hl, b.off off⟩)
theorem Env.minus {p : Addr} (E : Env G K (W.plus p) Γ σ H) (h0 : W.H0 p = none) (hs : ¬ isS W.o p) : Env G K W Γ σ H := by
  have ls : ∀ q, ZZ W Γ σ q → ZZ (W.plus p) Γ σ q := fun q z => zz_plus.mpr (.inl z)
  refine ⟨E.len, E.dok, fun st cl e => ⟨?_, fun z => (E.src st cl e).2 (ls _ z)⟩, E.kp, fun q hq => E.zt q (.inl hq), fun b v h => (E.tmp b v h).less ls, fun i b h => ?_, fun i b h => ?_, E.dis, E.lk, E.wok, E.kx, fun q z => ⟨(E.zx q z).1.elim id fun e => absurd h0 (by rw [← (show q = p from e)]; exact (E.zx q z).2), (E.zx q z).2⟩, fun a v h => ⟨(E.tm2 a v h).1, fun z => (E.tm2 a v h).2 (ls _ z)⟩⟩
  · rcases (E.src st cl e).1 with h | h
    · exact h
    · exact absurd ⟨cl, by rw [← (show st = p from h)]; exact e⟩ hs
  · obtain ⟨v, h1, h2⟩ := E.sh i b h
    exact ⟨v, h1, h2.less ls⟩
  · obtain ⟨q, h1, h2, h3, h4⟩ := E.ow i b h
    exact ⟨q, h1, h2, fun z => h3 (.inl z), h4.mv fun b n _ z => n (ls b z)⟩
/-- what is new becomes a name's own -/
theorem Env.own {p : Addr} {b : B} {i : Nat} (E : Env G K (W.plus p) Γ σ H) (h0 : W.H0 p = none) (hs : ¬ isS W.o p) (hz : ¬ ZZ W Γ σ p) (hb : OwAt K (ZZ (W.plus p) Γ σ) W.o H p b) : Env G K W (Γ.set i (.ow b)) (σ.set i (some (.ref p))) H := by
  have ls : ∀ q, ZZ W (Γ.set i (.ow b)) (σ.set i (some (.ref p))) q → ZZ (W.plus p) Γ σ q := fun q z => by
    rcases z with z | ⟨j, c, h1, h2⟩
    · exact .inl (.inl z)
    · by_cases hj : i = j
      · subst hj
        have hi : i < σ.length := by
          have := (List.getElem?_eq_some_iff.mp h2).1
          rwa [List.length_set] at this
        rw [List.getElem?_set_self hi] at h2
        cases h2
        exact .inl (.inr rfl)
      · rw [List.getElem?_set_ne hj] at h1 h2
        exact .inr ⟨j, c, h1, h2⟩
  have E1 := E.minus h0 hs
  refine ⟨by rw [List.length_set, List.length_set, E.len], E.dok, fun st cl e => ⟨(E1.src st cl e).1, fun z => (E.src st cl e).2 (ls _ z)⟩, E.kp, E1.zt, fun c v h => (E.tmp c v h).less ls, fun j c h => ?_, fun j c h => ?_, fun j k c d q h1 h2 h3 h4 => ?_, E.lk, E.wok, E.kx, E1.zx, fun a v h => ⟨(E.tm2 a v h).1, fun z => (E.tm2 a v h).2 (ls _ z)⟩⟩
  · by_cases hj : i = j
    · subst hj
      rw [List.getElem?_set] at h
      simp at h
    · rw [List.getElem?_set_ne hj] at h ⊢
      obtain ⟨v, a1, a2⟩ := E.sh j c h
      exact ⟨v, a1, a2.less ls⟩
  · by_cases hj : i = j
    · subst hj
      have hi : i < Γ.length := by
        have := (List.getElem?_eq_some_iff.mp h).1
        rwa [List.length_set] at this
      rw [List.getElem?_set_self hi] at h
      cases h
      exact ⟨p, List.getElem?_set_self (by rw [← E.len]; exact hi), h0, fun z => hz (.inl z), hb.mv fun b n _ z => n (ls b z)⟩
    · rw [List.getElem?_set_ne hj] at h ⊢
      obtain ⟨q, a1, a2, a3, a4⟩ := E1.ow j c h
      obtain ⟨q', a1', _, _, a4'⟩ := E.ow j c h
      rw [a1] at a1'
      cases a1'
      exact ⟨q, a1, a2, a3, a4'.mv fun b n _ z => n (ls b z)⟩
  · have old : ∀ {m : Nat} {c : B}, i ≠ m → (Γ.set i (.ow b))[m]? = some (Cell.ow c) → (σ.set i (some (.ref p)))[m]? = some (some (V.ref q)) → Γ[m]? = some (Cell.ow c) ∧ σ[m]? = some (some (V.ref q)) := fun {m c} hm a1 a2 => by
      rw [List.getElem?_set_ne hm] at a1 a2
      exact ⟨a1, a2⟩
    have new : ∀ {m : Nat} {c : B}, i = m → (Γ.set i (.ow b))[m]? = some (Cell.ow c) → (σ.set i (some (.ref p)))[m]? = some (some (V.ref q)) → q = p := fun {m c} hm a1 a2 => by
      subst hm
      have hi : i < σ.length := by
        have := (List.getElem?_eq_some_iff.mp a2).1
        rwa [List.length_set] at this
      rw [List.getElem?_set_self hi] at a2
      cases a2
      rfl
    by_cases hj : i = j
    · by_cases hk : i = k
      · exact hj.symm.trans hk
      · obtain ⟨a1, a2⟩ := old hk h2 h4
        have e := new hj h1 h3
        exact absurd (.inr ⟨k, d, a1, by rw [← e]; exact a2⟩) hz
    · by_cases hk : i = k
      · obtain ⟨a1, a2⟩ := old hj h1 h3
        have e := new hk h2 h4
        exact absurd (.inr ⟨j, c, a1, by rw [← e]; exact a2⟩) hz
      · obtain ⟨a1, a2⟩ := old hj h1 h3
        obtain ⟨b1, b2⟩ := old hk h2 h4
        exact E.dis j k c d q a1 b1 a2 b2
theorem set_id {i : Nat} {p : Addr} (h : σ[i]? = some (some (V.ref p))) : σ.set i (some (.ref p)) = σ := by
  refine List.ext_getElem? fun j => ?_
  by_cases hj : i = j
  · subst hj
    have hi := (List.getElem?_eq_some_iff.mp h).1
    rw [List.getElem?_set_self hi, h]
  · rw [List.getElem?_set_ne hj]
/-- what is a name's own is hidden for a while -/
theorem Env.hide {p : Addr} {b : B} {i : Nat} (E : Env G K W Γ σ H) (h1 : Γ[i]? = some (.ow b)) (h2 : σ[i]? = some (some (V.ref p))) :
    Env G K (W.plus p) (Γ.set i .no) σ H ∧ W.H0 p = none ∧ ¬ isS W.o p ∧ ¬ ZZ W (Γ.set i .no) σ p ∧ OwAt K (ZZ (W.plus p) (Γ.set i .no) σ) W.o H p b ∧ ∀ q, ZZ W Γ σ q ↔ ZZ (W.plus p) (Γ.set i .no) σ q := by
  have old : ∀ {j : Nat} {c : B}, (Γ.set i .no)[j]? = some (Cell.ow c) → i ≠ j ∧ Γ[j]? = some (Cell.ow c) := fun {j c} h => by
    by_cases hj : i = j
    · subst hj
      rw [List.getElem?_set] at h
      simp at h
    · rw [List.getElem?_set_ne hj] at h
      exact ⟨hj, h⟩
  have olds : ∀ {j : Nat} {c : B}, (Γ.set i .no)[j]? = some (Cell.sh c) → Γ[j]? = some (Cell.sh c) := fun {j c} h => by
    by_cases hj : i = j
    · subst hj
      rw [List.getElem?_set] at h
      simp at h
    · rw [List.getElem?_set_ne hj] at h
      exact h
  obtain ⟨p', e, a1, a2, a3⟩ := E.ow i b h1
  rw [h2] at e
  cases e
  have iff : ∀ q, ZZ W Γ σ q ↔ ZZ (W.plus p) (Γ.set i .no) σ q := fun q => by
    rw [zz_plus]
    constructor
    · rintro (h | ⟨j, c, k1, k2⟩)
      · exact .inl (.inl h)
      · by_cases hj : i = j
        · subst hj
          rw [h2] at k2
          cases k2
          exact .inr rfl
        · exact .inl (.inr ⟨j, c, by rw [List.getElem?_set_ne hj]; exact k1, k2⟩)
    · rintro ((h | ⟨j, c, k1, k2⟩) | h)
      · exact .inl h
      · exact .inr ⟨j, c, (old k1).2, k2⟩
      · rw [h]
        exact .inr ⟨i, b, h1, h2⟩
  have ls : ∀ q, ZZ (W.plus p) (Γ.set i .no) σ q → ZZ W Γ σ q := fun q z => (iff q).mpr z
  refine ⟨⟨by rw [List.length_set, E.len], E.dok, fun st cl e => ⟨.inl (E.src st cl e).1, fun z => (E.src st cl e).2 (ls _ z)⟩, E.kp, fun q hq => ?_, fun c v h => (E.tmp c v h).less ls, fun j c h => ?_, fun j c h => ?_, fun j k c d q k1 k2 k3 k4 => E.dis j k c d q (old k1).2 (old k2).2 k3 k4, E.lk, E.wok, E.kx, fun q z => ⟨.inl (E.zx q z).1, (E.zx q z).2⟩, fun a v h => ⟨(E.tm2 a v h).1, fun z => (E.tm2 a v h).2 (ls _ z)⟩⟩, a1, E.noS h1 h2, fun z => ?_, a3.mv fun b n _ z => n (ls b z), iff⟩
  · rcases hq with hq | hq
    · exact E.zt q hq
    · rw [show q = p from hq]
      exact a3.some
  · obtain ⟨v, k1, k2⟩ := E.sh j c (olds h)
    exact ⟨v, k1, k2.less ls⟩
  · obtain ⟨hj, h'⟩ := old h
    obtain ⟨q, k1, k2, k3, k4⟩ := E.ow j c h'
    refine ⟨q, k1, k2, fun z => z.elim k3 fun e => hj (E.dis i j b c p h1 h' h2 ?_), k4.mv fun b n _ z => n (ls b z)⟩
    rw [k1, show q = p from e]
  · rcases z with z | ⟨j, c, k1, k2⟩
    · exact a2 z
    · obtain ⟨hj, h'⟩ := old k1
      exact hj (E.dis i j b c p h1 h' h2 k2)
theorem set_set {α : Type} {l : List α} {i : Nat} {x y : α} : (l.set i x).set i y = l.set i y := by
  refine List.ext_getElem? fun j => ?_
  by_cases hj : i = j
  · subst hj
    by_cases hi : i < l.length
    · rw [List.getElem?_set_self (by rw [List.length_set]; exact hi), List.getElem?_set_self hi]
    · rw [List.getElem?_eq_none (by rw [List.length_set, List.length_set]; omega), List.getElem?_eq_none (by rw [List.length_set]; omega)]
  · rw [List.getElem?_set_ne hj, List.getElem?_set_ne hj, List.getElem?_set_ne hj]
/-- .. and changes -/
theorem Env.mut {p : Addr} {b b' : B} {i : Nat} {u : HO} (E : Env G K W Γ σ H) (h1 : Γ[i]? = some (.ow b)) (h2 : σ[i]? = some (some (V.ref p))) (hb : OwAt K (ZZ W Γ σ) W.o (upd H p u) p b') : Env G K W (Γ.set i (.ow b')) σ (upd H p u) := by
  obtain ⟨E1, a1, a2, a3, _, iff⟩ := E.hide h1 h2
  have E2 := (E1.put a1 a2 (fun z => a3 (.inr z)) (u := u)).own (i := i) (b := b') a1 a2 a3 (hb.mv fun b n _ z => n ((iff b).mpr z))
  rw [set_set, set_id h2] at E2
  exact E2
/-- .. and is a name's own no more -/
theorem Env.freeze {b : B} {i : Nat} (E : Env G K W Γ σ H) (h1 : Γ[i]? = some (.ow b)) : Env G K W (Γ.set i (.sh b)) σ H := by
  obtain ⟨p, h2, _⟩ := E.ow i b h1
  obtain ⟨E1, a1, a2, a3, a4, iff⟩ := E.hide h1 h2
  have E2 := (E1.minus a1 a2).set (i := i) (b := b) (v := .ref p) ((a4.mv fun q n _ z => n (zz_plus.mpr (.inl z))).rp a3)
  rw [set_set, set_id h2] at E2
  exact E2
/-- values kept by the way -/
def Wd.keep (W : Wd) (l : List (B × V)) : Wd := { W with T := l ++ W.T }
def Wd.keep2 (W : Wd) (l : List (Addr × HO)) : Wd := { W with T2 := l ++ W.T2 }
theorem Env.keep (E : Env G K W Γ σ H) {l : List (B × V)} (h : ∀ b v, (b, v) ∈ l → Rp K (ZZ W Γ σ) W.o H b v) : Env G K (W.keep l) Γ σ H := ⟨E.len, E.dok, E.src, E.kp, E.zt, fun b v hb => (List.mem_append.mp hb).elim (h b v) (E.tmp b v), E.sh, E.ow, E.dis, E.lk, E.wok, E.kx, E.zx, E.tm2⟩
theorem Env.drop {l : List (B × V)} (E : Env G K (W.keep l) Γ σ H) : Env G K W Γ σ H := ⟨E.len, E.dok, E.src, E.kp, E.zt, fun b v hb => E.tmp b v (List.mem_append_right _ hb), E.sh, E.ow, E.dis, E.lk, E.wok, E.kx, E.zx, E.tm2⟩
theorem Env.keep2 (E : Env G K W Γ σ H) {l : List (Addr × HO)} (h : ∀ a u, (a, u) ∈ l → H a = some u ∧ ¬ ZZ W Γ σ a) : Env G K (W.keep2 l) Γ σ H := ⟨E.len, E.dok, E.src, E.kp, E.zt, E.tmp, E.sh, E.ow, E.dis, E.lk, E.wok, E.kx, E.zx, fun a u hb => (List.mem_append.mp hb).elim (h a u) (E.tm2 a u)⟩
theorem Env.drop2 {l : List (Addr × HO)} (E : Env G K (W.keep2 l) Γ σ H) : Env G K W Γ σ H := ⟨E.len, E.dok, E.src, E.kp, E.zt, E.tmp, E.sh, E.ow, E.dis, E.lk, E.wok, E.kx, E.zx, fun a u hb => E.tm2 a u (List.mem_append_right _ hb)⟩
end
end BV
set_option Elab.async false
set_option linter.all false
set_option maxRecDepth 100000
set_option maxHeartbeats 4000000
/-! the rules by value -/
namespace BV
open PySem PySem.Spec PyProof.Rows L2 G0
section
variable (G : DK) (K : PySem.W.Frag)
def bwE (te : TE) (Γ : List Cell) (Post : B → Prop) : Prop := ∀ (W : Wd) (σ : L2.St) (H : Hp) (Q : VK), Env G K W Γ σ H → (∀ (b : B) (v : V) (H' : Hp), Post b → Kp W.o H H' → Env G K W Γ σ H' → Rp K (ZZ W Γ σ) W.o H' b v → Q v H') → te σ H Q
def bwA (ta : TA) (Γ : List Cell) (Post : List B → Prop) : Prop := ∀ (W : Wd) (σ : L2.St) (H : Hp) (Q : List V → Hp → Prop), Env G K W Γ σ H → (∀ (bs : List B) (vs : List V) (H' : Hp), Post bs → Kp W.o H H' → Env G K W Γ σ H' → Rps K (ZZ W Γ σ) W.o H' bs vs → Q vs H') → ta σ H Q
def bwT (tt : TT) (Γ : List Cell) (Post : Bool → Prop) : Prop := ∀ (W : Wd) (σ : L2.St) (H : Hp) (Q : Bool → Hp → Prop), Env G K W Γ σ H → (∀ (b : Bool) (H' : Hp), Post b → Kp W.o H H' → Env G K W Γ σ H' → Q b H') → tt σ H Q
/-- .. that makes a new list or dict -/
def bwN (te : TE) (Γ : List Cell) (Post : B → Prop) : Prop := ∀ (W : Wd) (σ : L2.St) (H : Hp) (Q : VK), Env G K W Γ σ H → (∀ (b : B) (p : Addr) (H' : Hp), Post b → Kp W.o H H' → Env G K (W.plus p) Γ σ H' → W.H0 p = none → ¬ isS W.o p → ¬ ZZ W Γ σ p → OwAt K (ZZ (W.plus p) Γ σ) W.o H' p b → Q (.ref p) H') → te σ H Q
def bwR1 (r : V → Hp → VK → Prop) (x : B) (Post : B → Prop) : Prop := ∀ (W : Wd) (Γ : List Cell) (σ : L2.St) (H : Hp) (v : V) (Q : VK), Env G K W Γ σ H → Rp K (ZZ W Γ σ) W.o H x v → (∀ (b : B) (z : V) (H' : Hp), Post b → Kp W.o H H' → Env G K W Γ σ H' → Rp K (ZZ W Γ σ) W.o H' b z → Q z H') → r v H Q
def bwR2 (r : R2) (x y : B) (Post : B → Prop) : Prop := ∀ (W : Wd) (Γ : List Cell) (σ : L2.St) (H : Hp) (v u : V) (Q : VK), Env G K W Γ σ H → Rp K (ZZ W Γ σ) W.o H x v → Rp K (ZZ W Γ σ) W.o H y u → (∀ (b : B) (z : V) (H' : Hp), Post b → Kp W.o H H' → Env G K W Γ σ H' → Rp K (ZZ W Γ σ) W.o H' b z → Q z H') → r v u H Q
def bwRA (r : List V → Hp → VK → Prop) (xs : List B) (Post : B → Prop) : Prop := ∀ (W : Wd) (Γ : List Cell) (σ : L2.St) (H : Hp) (vs : List V) (Q : VK), Env G K W Γ σ H → Rps K (ZZ W Γ σ) W.o H xs vs → (∀ (b : B) (z : V) (H' : Hp), Post b → Kp W.o H H' → Env G K W Γ σ H' → Rp K (ZZ W Γ σ) W.o H' b z → Q z H') → r vs H Q
structure En where
  N : List Cell → Prop
  R : B → Prop
  Bk : List Cell → Prop := fun _ => False
  Ct : List Cell → Prop := fun _ => False
  /-- a new list or dict is returned -/
  RO : B → Prop := fun _ => False
def Fin (W : Wd) (H' : Hp) (b : B) (v : V) : Prop := Kp W.o W.H0 H' ∧ DOk G W H' ∧ Rp K W.Z0 W.o H' b v
/-- what a def gives that is new: nothing else may be changed by who changes it -/
def FinO (W : Wd) (H' : Hp) (b : B) (p : Addr) : Prop := Kp W.o W.H0 H' ∧ DOk G W H' ∧ W.H0 p = none ∧ ¬ W.Z0 p ∧ OwAt K (fun q => W.Z0 q ∨ q = p) W.o H' p b
def bwS (ts : TS) (Γ : List Cell) (e : En) : Prop := ∀ (W : Wd) (σ : L2.St) (H : Hp) (D : Ends), Env G K W Γ σ H →
  (∀ (Γ' : List Cell) (σ' : L2.St) (H' : Hp), e.N Γ' → Env G K W Γ' σ' H' → D.nx σ' H') → (∀ (b : B) (v : V) (H' : Hp), e.R b → Fin G K W H' b v → D.rt v H') →
  (∀ (Γ' : List Cell) (σ' : L2.St) (H' : Hp), e.Bk Γ' → Env G K W Γ' σ' H' → D.bk σ' H') → (∀ (Γ' : List Cell) (σ' : L2.St) (H' : Hp), e.Ct Γ' → Env G K W Γ' σ' H' → D.ct σ' H') → (∀ (b : B) (p : Addr) (H' : Hp), e.RO b → FinO G K W H' b p → D.rt (.ref p) H') → ts D σ H
/-- a def by value: Wp says what may come of the arguments -/
def SpB (Wp : List B → (B → Prop) → Prop) : Sp := fun vs H Q _ => ∃ (Z : AS) (o : Sr) (bs : List B) (R : B → Prop), LK G H o H ∧ (∀ st cl, o.s st cl → G.D H st cl ∧ Z st ∧ ¬ Z cl) ∧ (∀ p, Z p → H p ≠ none) ∧ Rps K Z o H bs vs ∧ Wp bs R ∧
  ∀ (b : B) (v : V) (H' : Hp), R b → Kp o H H' → (∀ st cl, o.s st cl → G.D H' st cl) → Rp K Z o H' b v → Q v H'
end
section
variable {G : DK} {K : PySem.W.Frag} {Γ : List Cell} {Post P : B → Prop} {te ta tb : TE} {t tr : TA} {c c1 c2 : TT} {t1 t2 : TS} {e : En} {A A' : Prop}
theorem bwE.mono (h : bwE G K te Γ P) (k : ∀ b, P b → Post b) : bwE G K te Γ Post := fun W σ H Q E q => h W σ H Q E fun b v H' p => q b v H' (k b p)
theorem bwA.mono {P Post : List B → Prop} (h : bwA G K t Γ P) (k : ∀ b, P b → Post b) : bwA G K t Γ Post := fun W σ H Q E q => h W σ H Q E fun b v H' p => q b v H' (k b p)
theorem bwS.mono {e' : En} (h : bwS G K t1 Γ e) (n : ∀ g, e.N g → e'.N g) (r : ∀ b, e.R b → e'.R b) (bk : ∀ g, e.Bk g → e'.Bk g) (ct : ∀ g, e.Ct g → e'.Ct g) (ro : ∀ b, e.RO b → e'.RO b) : bwS G K t1 Γ e' := fun W σ H D E q1 q2 q3 q4 q5 => h W σ H D E (fun g s h z => q1 g s h (n g z)) (fun b v h z => q2 b v h (r b z)) (fun g s h z => q3 g s h (bk g z)) (fun g s h z => q4 g s h (ct g z)) (fun b p h z => q5 b p h (ro b z))
/-- the body of a def -/
theorem bodyC {Z : AS} {o : Sr} {bs : List B} {R : B → Prop} {vs : List V} {H : Hp} {Q : VK} (hU : LK G H o H) (hD : ∀ st cl, o.s st cl → G.D H st cl ∧ Z st ∧ ¬ Z cl) (hz : ∀ p, Z p → H p ≠ none) (hR : Rps K Z o H bs vs) (hw : G.wok H Z o)
    (q : ∀ (b : B) (v : V) (H' : Hp), R b → Kp o H H' → (∀ st cl, o.s st cl → G.D H' st cl) → Rp K Z o H' b v → Q v H') (N : List Str) {ts : TS}
    (k : bwS G K ts (bs.map Cell.sh ++ List.replicate (N.length - bs.length) .no) ⟨fun _ => R .non, R, fun _ => False, fun _ => False, fun _ => False⟩) : ts { nx := fun _ H' => Q .non H', rt := Q } (L2.start N vs) H := by
  have hl := rps_len hR
  have gl : ∀ {i : Nat} {c : Cell}, (bs.map Cell.sh ++ List.replicate (N.length - bs.length) Cell.no)[i]? = some c → c ≠ .no → ∃ b, bs[i]? = some b ∧ c = .sh b := fun {i c} h1 h2 => by
    by_cases hi : i < bs.length
    · rw [List.getElem?_append_left (by rw [List.length_map]; exact hi), List.getElem?_map] at h1
      rw [List.getElem?_eq_getElem hi] at h1 ⊢
      exact ⟨_, rfl, (Option.some.inj h1).symm⟩
    · rw [List.getElem?_append_right (by rw [List.length_map]; omega), List.getElem?_replicate] at h1
      split at h1
      · exact absurd (Option.some.inj h1).symm h2
      · cases h1
  have noO : ∀ p, ¬ ownA (bs.map Cell.sh ++ List.replicate (N.length - bs.length) .no) (L2.start N vs) p := fun p ⟨i, b, h1, _⟩ => by
    obtain ⟨_, _, z⟩ := gl h1 (fun z => nomatch z)
    cases z
  have zz : ∀ p, ZZ ⟨H, Z, o, [], [], H, Z⟩ (bs.map Cell.sh ++ List.replicate (N.length - bs.length) .no) (L2.start N vs) p → Z p := fun p z => z.elim id fun z => absurd z (noO p)
  have E0 : Env G K ⟨H, Z, o, [], [], H, Z⟩ (bs.map Cell.sh ++ List.replicate (N.length - bs.length) .no) (L2.start N vs) H := by
    refine ⟨?_, fun st cl e => (hD st cl e).1, fun st cl e => ⟨(hD st cl e).2.1, fun z => (hD st cl e).2.2 (zz _ z)⟩, Kp.refl, hz, fun b v hb => (List.not_mem_nil hb).elim, fun i b hb => ?_, fun i b hb => ?_, fun i j b c p h1 _ _ _ => ?_, hU, hw, Kp.refl, fun p z => ⟨z, hz p z⟩, fun a u h => (List.not_mem_nil h).elim⟩
    · unfold L2.start
      rw [List.length_append, List.length_append, List.length_map, List.length_map, List.length_replicate, List.length_replicate, hl]
    · obtain ⟨b', h1, h2⟩ := gl hb (fun z => nomatch z)
      cases h2
      obtain ⟨v, h3, h4⟩ := rps_at hR h1
      refine ⟨v, ?_, h4.less zz⟩
      unfold L2.start
      rw [List.getElem?_append_left (by rw [List.length_map]; exact (List.getElem?_eq_some_iff.mp h3).1), List.getElem?_map, h3]
      rfl
    · obtain ⟨_, _, z⟩ := gl hb (fun z => nomatch z)
      cases z
    · obtain ⟨_, _, z⟩ := gl h1 (fun z => nomatch z)
      cases z
  exact k _ _ H _ E0 (fun Γ' σ' H' r E' => q .non .non H' r E'.kp E'.dok (rp_non.mpr rfl)) (fun b v H' r f => q b v H' r f.1 f.2.1 f.2.2) (fun _ _ _ f _ => f.elim) (fun _ _ _ f _ => f.elim) (fun _ _ _ f _ => f.elim)
theorem body {Wp : List B → (B → Prop) → Prop} {vs : List V} {H : Hp} {Q : VK} {E : XK} (h : SpB G K Wp vs H Q E) (N : List Str) {ts : TS}
    (k : ∀ bs R, Wp bs R → bs.length = vs.length → bwS G K ts (bs.map Cell.sh ++ List.replicate (N.length - bs.length) .no) ⟨fun _ => R .non, R, fun _ => False, fun _ => False, fun _ => False⟩) (hw : ∀ H Z o, G.wok H Z o := by intros; trivial) : ts { nx := fun _ H' => Q .non H', rt := Q } (L2.start N vs) H := by
  obtain ⟨Z, o, bs, R, hU, hD, hz, hR, hW, q⟩ := h
  exact bodyC hU hD hz hR (hw _ _ _) q N (k bs R hW (rps_len hR))
theorem spLen {Wp : List B → (B → Prop) → Prop} {n : Nat} (hn : ∀ bs R, Wp bs R → bs.length = n) {vs : List V} {H : Hp} {Q : VK} {E : XK} (h : SpB G K Wp vs H Q E) : vs.length = n := by
  obtain ⟨Z, o, bs, R, _, _, _, hR, hW, _⟩ := h
  rw [← rps_len hR]
  exact hn _ _ hW
/-! ### expressions -/
theorem var {i : Nat} {b : B} (h : Γ[i]? = some (.sh b)) (q : Post b) : bwE G K (tVar i) Γ Post := fun W σ H Q E k => by
  obtain ⟨v, h1, h2⟩ := E.sh i b h
  exact ⟨v, h1, k b v H q Kp.refl E h2⟩
instance st_var {i : Nat} {b : B} [h : BVAt Γ i (.sh b)] : BVSt (bwE G K (tVar i) Γ Post) (Post b) := ⟨fun q => var h.eq q⟩
theorem cRaw {v : V} (q : Post (.raw v)) : bwE G K (tC v) Γ Post := fun W σ H Q E k => k _ v H q Kp.refl E (rp_raw.mpr rfl)
instance (priority := low) st_cRaw {v : V} : BVSt (bwE G K (tC v) Γ Post) (Post (.raw v)) := ⟨fun h => cRaw h⟩
theorem cInt {i : Int} (q : Post (.int i)) : bwE G K (tC (.int i)) Γ Post := fun W σ H Q E k => k _ _ H q Kp.refl E (rp_int.mpr rfl)
instance st_cInt {i : Int} : BVSt (bwE G K (tC (.int i)) Γ Post) (Post (.int i)) := ⟨fun h => cInt h⟩
theorem cStr {x : Str} (q : Post (.str x)) : bwE G K (tC (.str x)) Γ Post := fun W σ H Q E k => k _ _ H q Kp.refl E (rp_str.mpr rfl)
instance st_cStr {x : Str} : BVSt (bwE G K (tC (.str x)) Γ Post) (Post (.str x)) := ⟨fun h => cStr h⟩
theorem cBl {b : Bool} (q : Post (.bl b)) : bwE G K (tC (.bl b)) Γ Post := fun W σ H Q E k => k _ _ H q Kp.refl E (rp_bl.mpr rfl)
instance st_cBl {b : Bool} : BVSt (bwE G K (tC (.bl b)) Γ Post) (Post (.bl b)) := ⟨fun h => cBl h⟩
theorem cNon (q : Post .non) : bwE G K (tC .non) Γ Post := fun W σ H Q E k => k _ _ H q Kp.refl E (rp_non.mpr rfl)
instance st_cNon  : BVSt (bwE G K (tC .non) Γ Post) (Post .non) := ⟨fun h => cNon h⟩
theorem nil {Post : List B → Prop} (q : Post []) : bwA G K tNil Γ Post := fun W σ H Q E k => k [] [] H q Kp.refl E (rps_nil.mpr rfl)
instance st_nil {Post : List B → Prop} : BVSt (bwA G K tNil Γ Post) (Post []) := ⟨fun h => nil h⟩
theorem cons {Post : List B → Prop} (h : bwE G K ta Γ fun x => bwA G K tr Γ fun xs => Post (x :: xs)) : bwA G K (tCons ta tr) Γ Post := fun W σ H Q E k =>
  h W σ H _ E fun x v H1 p1 k1 E1 r1 => p1 W σ H1 _ E1 fun xs vs H2 p2 k2 E2 r2 => k (x :: xs) (v :: vs) H2 p2 (k1.trans k2) E2 (rps_cons.mpr ⟨v, vs, rfl, r1.kp E1.zs k2, r2⟩)
instance st_cons {Post : List B → Prop} : BVSt (bwA G K (tCons ta tr) Γ Post) (bwE G K ta Γ fun x => bwA G K tr Γ fun xs => Post (x :: xs)) := ⟨fun h => cons h⟩
theorem tup (h : bwA G K t Γ fun xs => xs.length ≤ sizeLine ∧ Post (.tup xs)) : bwE G K (tTup t) Γ Post := fun W σ H Q E k =>
  RD.tup (h W σ H _ E fun xs vs H1 p k1 E1 r => ⟨by rw [← rps_len r]; exact p.1, fun q hq => k _ _ _ p.2 (k1.nw hq) (E1.nw hq) (rp_tup.mpr ⟨q, vs, rfl, .inl ⟨upd_same, (E1.fresh hq).2.1⟩, r.kp E1.zs (Kp.refl.nw hq)⟩)⟩)
theorem le_line {α : Type} {l : List α} [h : BVLe l 1000] : l.length ≤ sizeLine := Nat.le_trans h.le (by rw [sizeLine_eq]; decide)
instance st_le {l : List B} {A : Prop} [h : BVLe l 1000] : BVSt (l.length ≤ sizeLine ∧ A) A := ⟨fun q => ⟨le_line, q⟩⟩
instance st_lt {l : List B} {A : Prop} [h : BVLe l 1000] : BVSt (l.length < sizeLine ∧ A) A := ⟨fun q => ⟨Nat.lt_of_le_of_lt h.le (by rw [sizeLine_eq]; decide), q⟩⟩
instance st_tup  : BVSt (bwE G K (tTup t) Γ Post) (bwA G K t Γ fun xs => xs.length ≤ sizeLine ∧ Post (.tup xs)) := ⟨fun h => tup h⟩
theorem lstN (h : bwA G K t Γ fun xs => xs.length ≤ sizeLine ∧ Post (.lst xs)) : bwN G K (tLst t) Γ Post := fun W σ H Q E k =>
  RD.lst (h W σ H _ E fun xs vs H1 p k1 E1 r => ⟨by rw [← rps_len r]; exact p.1, fun q hq => by
    obtain ⟨f1, f2, f3⟩ := E1.fresh hq
    refine k _ q _ p.2 (k1.nw hq) (E1.plus hq) f1 f3 f2 ⟨vs, upd_same, ?_⟩
    exact (r.mv fun b n hb z => (zz_plus.mp z).elim n fun e => hb (by rw [e]; exact hq)).kp (fun st z => zz_plus.mpr (.inl (E1.zs st z))) (Kp.refl.nw hq)⟩)
theorem ofN (h : bwN G K te Γ Post) : bwE G K te Γ Post := fun W σ H Q E k =>
  h W σ H Q E fun b p H' pb k1 E1 f1 f3 f2 ow => k b (.ref p) H' pb k1 (E1.minus f1 f3) ((ow.mv fun b n _ z => n (zz_plus.mpr (.inl z))).rp f2)
theorem lst (h : bwA G K t Γ fun xs => xs.length ≤ sizeLine ∧ Post (.lst xs)) : bwE G K (tLst t) Γ Post := ofN (lstN h)
instance st_lst  : BVSt (bwE G K (tLst t) Γ Post) (bwA G K t Γ fun xs => xs.length ≤ sizeLine ∧ Post (.lst xs)) := ⟨fun h => lst h⟩
theorem op {r : R2} (h : bwE G K ta Γ fun x => bwE G K tb Γ fun y => bwR2 G K r x y Post) : bwE G K (tOp r ta tb) Γ Post := fun W σ H Q E k =>
  RD.op (h W σ H _ E fun x v H1 p1 k1 E1 r1 => p1 W σ H1 _ E1 fun y u H2 p2 k2 E2 r2 => p2 W Γ σ H2 v u Q E2 (r1.kp E1.zs k2) r2 fun b z H3 pb k3 => k b z H3 pb (k1.trans (k2.trans k3)))
instance st_op {r : R2} : BVSt (bwE G K (tOp r ta tb) Γ Post) (bwE G K ta Γ fun x => bwE G K tb Γ fun y => bwR2 G K r x y Post) := ⟨fun h => op h⟩
theorem un {r : V → Hp → VK → Prop} (h : bwE G K ta Γ fun x => bwR1 G K r x Post) : bwE G K (tUn r ta) Γ Post := fun W σ H Q E k =>
  RD.un (h W σ H _ E fun x v H1 p1 k1 E1 r1 => p1 W Γ σ H1 v Q E1 r1 fun b z H3 pb k3 => k b z H3 pb (k1.trans k3))
instance st_un {r : V → Hp → VK → Prop} : BVSt (bwE G K (tUn r ta) Γ Post) (bwE G K ta Γ fun x => bwR1 G K r x Post) := ⟨fun h => un h⟩
theorem thn_ {r : V → Hp → VK → Prop} (h : bwE G K ta Γ fun x => bwR1 G K r x Post) : bwE G K (tThen ta r) Γ Post := fun W σ H Q E k =>
  RD.then_ (h W σ H _ E fun x v H1 p1 k1 E1 r1 => p1 W Γ σ H1 v Q E1 r1 fun b z H3 pb k3 => k b z H3 pb (k1.trans k3))
instance st_thn_ {r : V → Hp → VK → Prop} : BVSt (bwE G K (tThen ta r) Γ Post) (bwE G K ta Γ fun x => bwR1 G K r x Post) := ⟨fun h => thn_ h⟩
theorem cb {r : List V → Hp → VK → Prop} (h : bwA G K t Γ fun xs => bwRA G K r xs Post) : bwE G K (tCB r t) Γ Post := fun W σ H Q E k =>
  RD.cb (h W σ H _ E fun xs vs H1 p1 k1 E1 r1 => p1 W Γ σ H1 vs Q E1 r1 fun b z H3 pb k3 => k b z H3 pb (k1.trans k3))
instance st_cb {r : List V → Hp → VK → Prop} : BVSt (bwE G K (tCB r t) Γ Post) (bwA G K t Γ fun xs => bwRA G K r xs Post) := ⟨fun h => cb h⟩
theorem call {Wp : List B → (B → Prop) → Prop} {E : XK} (h : bwA G K t Γ fun bs => Wp bs Post) : bwE G K (tCall (SpB G K Wp) [] E t) Γ Post := fun W σ H Q Ev k =>
  RD.call (h W σ H _ Ev fun bs vs H1 p1 k1 E1 r1 => ⟨ZZ W Γ σ, W.o, bs, Post, E1.lk.base, fun st cl e => ⟨E1.dok st cl e, .inl (E1.src st cl e).1, (E1.src st cl e).2⟩, E1.zz, r1, p1, fun b v H2 pb k2 d2 r2 => k b v H2 pb (k1.trans k2) (E1.step k2 d2) r2⟩)
instance st_call {Wp : List B → (B → Prop) → Prop} {E : XK} : BVSt (bwE G K (tCall (SpB G K Wp) [] E t) Γ Post) (bwA G K t Γ fun bs => Wp bs Post) := ⟨fun h => call h⟩
/-- .. of a def that minds no lock -/
theorem callLo {Wp : List B → (B → Prop) → Prop} {E : XK} (h : bwA G K t Γ fun bs => Wp bs Post) : bwE G K (tCall (SpB G.lo K Wp) [] E t) Γ Post := fun W σ H Q Ev k =>
  RD.call (h W σ H _ Ev fun bs vs H1 p1 k1 E1 r1 => ⟨ZZ W Γ σ, W.o, bs, Post, ⟨fun z => z.elim, fun z => z.elim⟩, fun st cl e => ⟨E1.dok st cl e, .inl (E1.src st cl e).1, (E1.src st cl e).2⟩, E1.zz, r1, p1, fun b v H2 pb k2 d2 r2 => k b v H2 pb (k1.trans k2) (E1.step k2 d2) r2⟩)
instance st_callLo {Wp : List B → (B → Prop) → Prop} {E : XK} : BVSt (bwE G K (tCall (SpB G.lo K Wp) [] E t) Γ Post) (bwA G K t Γ fun bs => Wp bs Post) := ⟨fun h => callLo h⟩
theorem ifE (h : bwT G K c Γ fun b => if b = true then bwE G K ta Γ Post else bwE G K tb Γ Post) : bwE G K (tIf c ta tb) Γ Post := fun W σ H Q E k =>
  RD.if_ (h W σ H _ E fun b H1 p k1 E1 => by
    cases b with
    | true =>
      rw [if_pos rfl] at p ⊢
      exact p W σ H1 Q E1 fun b v H2 pb k2 => k b v H2 pb (k1.trans k2)
    | false =>
      rw [if_neg Bool.false_ne_true] at p ⊢
      exact p W σ H1 Q E1 fun b v H2 pb k2 => k b v H2 pb (k1.trans k2))
instance st_ifE  : BVSt (bwE G K (tIf c ta tb) Γ Post) (bwT G K c Γ fun b => if b = true then bwE G K ta Γ Post else bwE G K tb Γ Post) := ⟨fun h => ifE h⟩
theorem andV (h : bwE G K ta Γ fun x => ∃ c, x = .bl c ∧ if c = true then bwE G K tb Γ Post else Post (.bl false)) : bwE G K (tAndV ta tb) Γ Post := fun W σ H Q E k =>
  RD.andV (h W σ H _ E fun x v H1 p k1 E1 r1 => by
    obtain ⟨c, rfl, p⟩ := p
    refine ⟨c, rp_bl.mp r1, ?_⟩
    cases c with
    | true =>
      rw [if_pos rfl] at p ⊢
      exact p W σ H1 Q E1 fun b v H2 pb k2 => k b v H2 pb (k1.trans k2)
    | false =>
      rw [if_neg Bool.false_ne_true] at p ⊢
      exact k _ _ H1 p k1 E1 (rp_bl.mpr rfl))
instance st_andV  : BVSt (bwE G K (tAndV ta tb) Γ Post) (bwE G K ta Γ fun x => ∃ c, x = .bl c ∧ if c = true then bwE G K tb Γ Post else Post (.bl false)) := ⟨fun h => andV h⟩
theorem orV (h : bwE G K ta Γ fun x => ∃ c, x = .bl c ∧ if c = true then Post (.bl true) else bwE G K tb Γ Post) : bwE G K (tOrV ta tb) Γ Post := fun W σ H Q E k =>
  RD.orV (h W σ H _ E fun x v H1 p k1 E1 r1 => by
    obtain ⟨c, rfl, p⟩ := p
    refine ⟨c, rp_bl.mp r1, ?_⟩
    cases c with
    | true =>
      rw [if_pos rfl] at p ⊢
      exact k _ _ H1 p k1 E1 (rp_bl.mpr rfl)
    | false =>
      rw [if_neg Bool.false_ne_true] at p ⊢
      exact p W σ H1 Q E1 fun b v H2 pb k2 => k b v H2 pb (k1.trans k2))
instance st_orV  : BVSt (bwE G K (tOrV ta tb) Γ Post) (bwE G K ta Γ fun x => ∃ c, x = .bl c ∧ if c = true then Post (.bl true) else bwE G K tb Γ Post) := ⟨fun h => orV h⟩
theorem notV (h : bwE G K ta Γ fun x => ∃ c, x = .bl c ∧ Post (.bl (!c))) : bwE G K (tNotV ta) Γ Post := fun W σ H Q E k =>
  RD.notV (h W σ H _ E fun x v H1 p k1 E1 r1 => by
    obtain ⟨c, rfl, p⟩ := p
    exact ⟨c, rp_bl.mp r1, k _ _ H1 p k1 E1 (rp_bl.mpr rfl)⟩)
instance st_notV  : BVSt (bwE G K (tNotV ta) Γ Post) (bwE G K ta Γ fun x => ∃ c, x = .bl c ∧ Post (.bl (!c))) := ⟨fun h => notV h⟩
theorem chain {r r' : R2} {tc : TE} (h : bwE G K ta Γ fun x => bwE G K tb Γ fun y => bwR2 G K r x y fun z => ∃ k, z = .bl k ∧ if k = true then bwE G K tc Γ fun u => bwR2 G K r' y u Post else Post (.bl false)) : bwE G K (tChain r r' ta tb tc) Γ Post := fun W σ H Q E k =>
  RD.chain (h W σ H _ E fun x v H1 p1 k1 E1 r1 => p1 W σ H1 _ E1 fun y u H2 p2 k2 E2 r2 => p2 W Γ σ H2 v u _ E2 (r1.kp E1.zs k2) r2 fun b z H3 pb k3 E3 r3 => by
    obtain ⟨c, rfl, pb⟩ := pb
    refine ⟨c, rp_bl.mp r3, ?_⟩
    cases c with
    | true =>
      rw [if_pos rfl] at pb ⊢
      exact pb W σ H3 _ E3 fun u' v' H4 p4 k4 E4 r4 => p4 W Γ σ H4 u v' Q E4 ((r2.kp E2.zs k3).kp E3.zs k4) r4 fun b z H5 pb k5 => k b z H5 pb (k1.trans (k2.trans (k3.trans (k4.trans k5))))
    | false =>
      rw [if_neg Bool.false_ne_true] at pb ⊢
      exact k _ _ H3 pb (k1.trans (k2.trans k3)) E3 (rp_bl.mpr rfl))
instance st_chain {r r' : R2} {tc : TE} : BVSt (bwE G K (tChain r r' ta tb tc) Γ Post) (bwE G K ta Γ fun x => bwE G K tb Γ fun y => bwR2 G K r x y fun z => ∃ k, z = .bl k ∧ if k = true then bwE G K tc Γ fun u => bwR2 G K r' y u Post else Post (.bl false)) := ⟨fun h => chain h⟩
/-! ### tests -/
theorem tB_ {PB : Bool → Prop} (h : bwE G K ta Γ fun x => ∃ c, x = .bl c ∧ PB c) : bwT G K (tB ta) Γ PB := fun W σ H Q E k =>
  RD.B_ (h W σ H _ E fun x v H1 p k1 E1 r1 => by
    obtain ⟨c, rfl, p⟩ := p
    exact ⟨c, rp_bl.mp r1, k c H1 p k1 E1⟩)
instance st_tB_ {PB : Bool → Prop} : BVSt (bwT G K (tB ta) Γ PB) (bwE G K ta Γ fun x => ∃ c, x = .bl c ∧ PB c) := ⟨fun h => tB_ h⟩
theorem test {PB : Bool → Prop} (h : bwE G K ta Γ fun x => ∃ c, x = .bl c ∧ PB c) : bwT G K (tTest ta) Γ PB := tB_ h
instance st_test {PB : Bool → Prop} : BVSt (bwT G K (tTest ta) Γ PB) (bwE G K ta Γ fun x => ∃ c, x = .bl c ∧ PB c) := ⟨fun h => test h⟩
theorem and_ {PB : Bool → Prop} (h : bwT G K c1 Γ fun b => if b = true then bwT G K c2 Γ PB else PB false) : bwT G K (tAnd c1 c2) Γ PB := fun W σ H Q E k =>
  RD.and_ (h W σ H _ E fun b H1 p k1 E1 => by
    cases b with
    | true =>
      rw [if_pos rfl] at p ⊢
      exact p W σ H1 Q E1 fun b H2 pb k2 => k b H2 pb (k1.trans k2)
    | false =>
      rw [if_neg Bool.false_ne_true] at p ⊢
      exact k _ H1 p k1 E1)
instance st_and_ {PB : Bool → Prop} : BVSt (bwT G K (tAnd c1 c2) Γ PB) (bwT G K c1 Γ fun b => if b = true then bwT G K c2 Γ PB else PB false) := ⟨fun h => and_ h⟩
theorem or_ {PB : Bool → Prop} (h : bwT G K c1 Γ fun b => if b = true then PB true else bwT G K c2 Γ PB) : bwT G K (tOr c1 c2) Γ PB := fun W σ H Q E k =>
  RD.or_ (h W σ H _ E fun b H1 p k1 E1 => by
    cases b with
    | true =>
      rw [if_pos rfl] at p ⊢
      exact k _ H1 p k1 E1
    | false =>
      rw [if_neg Bool.false_ne_true] at p ⊢
      exact p W σ H1 Q E1 fun b H2 pb k2 => k b H2 pb (k1.trans k2))
instance st_or_ {PB : Bool → Prop} : BVSt (bwT G K (tOr c1 c2) Γ PB) (bwT G K c1 Γ fun b => if b = true then PB true else bwT G K c2 Γ PB) := ⟨fun h => or_ h⟩
theorem not_ {PB : Bool → Prop} (h : bwT G K c1 Γ fun b => PB (!b)) : bwT G K (tNot c1) Γ PB := fun W σ H Q E k => RD.not_ (h W σ H _ E fun b H1 p => k _ H1 p)
instance st_not_ {PB : Bool → Prop} : BVSt (bwT G K (tNot c1) Γ PB) (bwT G K c1 Γ fun b => PB (!b)) := ⟨fun h => not_ h⟩
theorem yes {PB : Bool → Prop} (h : PB true) : bwT G K tYes Γ PB := fun W σ H Q E k => RD.yes (k true H h Kp.refl E)
instance st_yes {PB : Bool → Prop} : BVSt (bwT G K tYes Γ PB) (PB true) := ⟨fun h => yes h⟩
/-! ### statements -/
theorem seq (h : bwS G K t1 Γ { e with N := fun g => bwS G K t2 g e }) : bwS G K (tSeq t1 t2) Γ e := fun W σ H D E q1 q2 q3 q4 q5 =>
  RD.seq (h W σ H ⟨t2 D, D.rt, D.bk, D.ct⟩ E (fun g s h' z E' => z W s h' D E' q1 q2 q3 q4 q5) q2 q3 q4 q5)
instance st_seq  : BVSt (bwS G K (tSeq t1 t2) Γ e) (bwS G K t1 Γ { e with N := fun g => bwS G K t2 g e }) := ⟨fun h => seq h⟩
theorem next (h : e.N Γ) : bwS G K tNext Γ e := fun W σ H D E q1 q2 q3 q4 q5 => q1 Γ σ H h E
instance st_next  : BVSt (bwS G K tNext Γ e) (e.N Γ) := ⟨fun h => next h⟩
theorem ret (h : bwE G K te Γ e.R) : bwS G K (tRet te) Γ e := fun W σ H D E q1 q2 q3 q4 q5 =>
  RD.ret (h W σ H _ E fun b v H1 p k1 E1 r1 => q2 b v H1 p ⟨E1.kp, E1.dok, r1.less fun p z => .inl z⟩)
instance st_ret_tC {v : V} : BVSt (bwS G K (tRet (tC v)) Γ e) (bwE G K (tC v) Γ e.R) := ⟨fun h => ret h⟩
instance st_ret_tOp {r : R2} : BVSt (bwS G K (tRet (tOp r ta tb)) Γ e) (bwE G K (tOp r ta tb) Γ e.R) := ⟨fun h => ret h⟩
instance st_ret_tUn {r : V → Hp → VK → Prop} : BVSt (bwS G K (tRet (tUn r ta)) Γ e) (bwE G K (tUn r ta) Γ e.R) := ⟨fun h => ret h⟩
instance st_ret_tThen {r : V → Hp → VK → Prop} : BVSt (bwS G K (tRet (tThen ta r)) Γ e) (bwE G K (tThen ta r) Γ e.R) := ⟨fun h => ret h⟩
instance st_ret_tCB {r : List V → Hp → VK → Prop} : BVSt (bwS G K (tRet (tCB r t)) Γ e) (bwE G K (tCB r t) Γ e.R) := ⟨fun h => ret h⟩
instance st_ret_tCall {sp : Sp} {gs : List V} {E : XK} : BVSt (bwS G K (tRet (tCall sp gs E t)) Γ e) (bwE G K (tCall sp gs E t) Γ e.R) := ⟨fun h => ret h⟩
instance st_ret_tTup  : BVSt (bwS G K (tRet (tTup t)) Γ e) (bwE G K (tTup t) Γ e.R) := ⟨fun h => ret h⟩
instance st_ret_tLst  : BVSt (bwS G K (tRet (tLst t)) Γ e) (bwE G K (tLst t) Γ e.R) := ⟨fun h => ret h⟩
instance st_ret_tIf  : BVSt (bwS G K (tRet (tIf c ta tb)) Γ e) (bwE G K (tIf c ta tb) Γ e.R) := ⟨fun h => ret h⟩
instance st_ret_tAndV  : BVSt (bwS G K (tRet (tAndV ta tb)) Γ e) (bwE G K (tAndV ta tb) Γ e.R) := ⟨fun h => ret h⟩
instance st_ret_tOrV  : BVSt (bwS G K (tRet (tOrV ta tb)) Γ e) (bwE G K (tOrV ta tb) Γ e.R) := ⟨fun h => ret h⟩
instance st_ret_tNotV  : BVSt (bwS G K (tRet (tNotV ta)) Γ e) (bwE G K (tNotV ta) Γ e.R) := ⟨fun h => ret h⟩
instance st_ret_tChain {r r' : R2} {tc : TE} : BVSt (bwS G K (tRet (tChain r r' ta tb tc)) Γ e) (bwE G K (tChain r r' ta tb tc) Γ e.R) := ⟨fun h => ret h⟩
instance st_ret_tSl {r : V → Option Int → Option Int → Hp → VK → Prop} {tl th : TO} : BVSt (bwS G K (tRet (tSl r te tl th)) Γ e) (bwE G K (tSl r te tl th) Γ e.R) := ⟨fun h => ret h⟩
instance st_ret_var {i : Nat} {b : B} [h : BVAt Γ i (.sh b)] : BVSt (bwS G K (tRet (tVar i)) Γ e) (e.R b) := ⟨fun q => ret (var h.eq q)⟩
theorem retN (h : e.R .non) : bwS G K tRetN Γ e := fun W σ H D E q1 q2 q3 q4 q5 => RD.retN (q2 .non .non H h ⟨E.kp, E.dok, rp_non.mpr rfl⟩)
instance st_retN  : BVSt (bwS G K tRetN Γ e) (e.R .non) := ⟨fun h => retN h⟩
theorem asg {i : Nat} (h : bwE G K te Γ fun b => e.N (Γ.set i (.sh b))) : bwS G K (tAsg te (gName i)) Γ e := fun W σ H D E q1 q2 q3 q4 q5 =>
  RD.asg (h W σ H _ E fun b v H1 p k1 E1 r1 => RD.gname (q1 _ _ H1 p (E1.set r1)))
/-- what is no more than read -/
class BVPl (te : TE) : Prop where
  t : True
instance pl_tC {v : V} : BVPl (tC v) := ⟨trivial⟩
instance pl_tOp {r : R2} : BVPl (tOp r ta tb) := ⟨trivial⟩
instance pl_tUn {r : V → Hp → VK → Prop} : BVPl (tUn r ta) := ⟨trivial⟩
instance pl_tThen {r : V → Hp → VK → Prop} : BVPl (tThen ta r) := ⟨trivial⟩
instance pl_tCB {r : List V → Hp → VK → Prop} : BVPl (tCB r t) := ⟨trivial⟩
instance pl_tCall {sp : Sp} {gs : List V} {E : XK} : BVPl (tCall sp gs E t) := ⟨trivial⟩
instance pl_tTup  : BVPl (tTup t) := ⟨trivial⟩
instance pl_tLst  : BVPl (tLst t) := ⟨trivial⟩
instance pl_tIf  : BVPl (tIf c ta tb) := ⟨trivial⟩
instance pl_tAndV  : BVPl (tAndV ta tb) := ⟨trivial⟩
instance pl_tOrV  : BVPl (tOrV ta tb) := ⟨trivial⟩
instance pl_tNotV  : BVPl (tNotV ta) := ⟨trivial⟩
instance pl_tChain {r r' : R2} {tc : TE} : BVPl (tChain r r' ta tb tc) := ⟨trivial⟩
instance pl_tSl {r : V → Option Int → Option Int → Hp → VK → Prop} {tl th : TO} : BVPl (tSl r te tl th) := ⟨trivial⟩
instance pl_var {i : Nat} : BVPl (tVar i) := ⟨trivial⟩
instance (priority := low) st_asg {i : Nat} [BVPl te] : BVSt (bwS G K (tAsg te (gName i)) Γ e) (bwE G K te Γ fun b => e.N (Γ.set i (.sh b))) := ⟨fun h => asg h⟩
theorem asgN {i : Nat} (h : bwN G K te Γ fun b => e.N (Γ.set i (.ow b))) : bwS G K (tAsg te (gName i)) Γ e := fun W σ H D E q1 q2 q3 q4 q5 =>
  RD.asg (h W σ H _ E fun b p H1 pb k1 E1 f1 f3 f2 ow => RD.gname (q1 _ _ H1 pb (E1.own f1 f3 f2 ow)))
theorem dropE (h : bwE G K te Γ fun _ => e.N Γ) : bwS G K (tDrop te) Γ e := fun W σ H D E q1 q2 q3 q4 q5 =>
  RD.drop (h W σ H _ E fun b v H1 p k1 E1 r1 => q1 Γ σ H1 p E1)
theorem ifS (h : bwT G K c Γ fun b => if b = true then bwS G K t1 Γ e else bwS G K t2 Γ e) : bwS G K (tIfS c t1 t2) Γ e := fun W σ H D E q1 q2 q3 q4 q5 =>
  RD.ifS (h W σ H _ E fun b H1 p k1 E1 => by
    cases b with
    | true =>
      rw [if_pos rfl] at p ⊢
      exact p W σ H1 D E1 q1 q2 q3 q4 q5
    | false =>
      rw [if_neg Bool.false_ne_true] at p ⊢
      exact p W σ H1 D E1 q1 q2 q3 q4 q5)
instance st_ifS  : BVSt (bwS G K (tIfS c t1 t2) Γ e) (bwT G K c Γ fun b => if b = true then bwS G K t1 Γ e else bwS G K t2 Γ e) := ⟨fun h => ifS h⟩
/-- an own list or dict is read from here on -/
theorem frz (i : Nat) {b : B} (h : Γ[i]? = some (.ow b)) (k : bwS G K t1 (Γ.set i (.sh b)) e) : bwS G K t1 Γ e := fun W σ H D E q1 q2 q3 q4 q5 => k W σ H D (E.freeze h) q1 q2 q3 q4 q5
/-- an own list is returned -/
theorem retO {i : Nat} {b : B} (h : Γ[i]? = some (.ow b)) (q : e.R b) : bwS G K (tRet (tVar i)) Γ e := frz i h (ret (var (b := b) (List.getElem?_set_self (List.getElem?_eq_some_iff.mp h).1) q))
theorem never {ts : TS} (h : False) : bwS G K ts Γ e := h.elim
/-- two ways that meet -/
theorem join (Pd : List Cell → Prop) (h : bwS G K t1 Γ { e with N := Pd }) (k : ∀ g, Pd g → e.N g) : bwS G K t1 Γ e := h.mono k (fun _ z => z) (fun _ z => z) (fun _ z => z) (fun _ z => z)
theorem append {i : Nat} {ds : List B} (h : Γ[i]? = some (.ow (.lst ds))) (q : bwE G K te Γ fun b => ds.length < sizeLine ∧ e.N (Γ.set i (.ow (.lst (ds ++ [b]))))) : bwS G K (tDrop (tBM K "list" rAppend (tVar i) (tCons te tNil))) Γ e := fun W σ H D E q1 q2 q3 q4 q5 => by
  obtain ⟨p, h1, h2, h3, vs, h4, h5⟩ := E.ow i _ h
  refine RD.drop (RD.bm ⟨.ref p, h1, .inl ⟨rfl, _, SqL.of h4⟩, RD.cons (q W σ H _ E fun b v H1 pb k1 E1 r1 => RD.nil ?_)⟩)
  have hp1 := k1 p _ (E.noS h h1) h4
  refine ⟨p, vs, v, rfl, rfl, hp1, by rw [← rps_len h5]; exact pb.1, q1 _ _ _ pb.2 (E1.mut h h1 ⟨vs ++ [v], upd_same, ?_⟩)⟩
  have off : ∀ b u, (¬ ZZ W Γ σ b ∨ isS W.o b) → ¬ ZZ W Γ σ b → H1 b = some u → upd H1 p (.lst (vs ++ [v])) b = some u := fun b u _ n hb => by
    rw [upd_ne fun e => n (.inr ⟨i, _, h, by rw [e]; exact h1⟩)]
    exact hb
  exact rps_app ((h5.kp E.zs k1).off off) (rps_one (r1.off off))
instance st_append {i : Nat} {ds : List B} [h : BVAt Γ i (.ow (.lst ds))] : BVSt (bwS G K (tDrop (tBM K "list" rAppend (tVar i) (tCons te tNil))) Γ e) (bwE G K te Γ fun b => ds.length < sizeLine ∧ e.N (Γ.set i (.ow (.lst (ds ++ [b]))))) := ⟨fun q => append h.eq q⟩
end
end BV
set_option Elab.async false
set_option linter.all false
set_option maxRecDepth 100000
set_option maxHeartbeats 4000000
/-! by value: what a loop walks, loops, comprehensions -/
namespace RD
open PySem PySem.Spec PyProof.Rows L2 G0
theorem istr' {te : TE} {σ : L2.St} {H : Hp} {R : It → Hp → Prop} (h : te σ H fun x H1 => ∃ z, x = .str z ∧ R (Its z) H1) : iStr te σ H R := h
theorem irng1 {ta : TA} {σ : L2.St} {H : Hp} {R : It → Hp → Prop} (h : ta σ H fun vs H1 => ∃ j : Int, vs = [.int j] ∧ -(2 ^ 62) ≤ j ∧ j < 2 ^ 62 ∧ R (Itr 0 j.toNat) H1) : iRng1 ta σ H R := h
theorem irng2 {ta : TA} {σ : L2.St} {H : Hp} {R : It → Hp → Prop} (h : ta σ H fun vs H1 => ∃ i j : Int, vs = [.int i, .int j] ∧ (-(2 ^ 62) ≤ i ∧ i < 2 ^ 62 ∧ -(2 ^ 62) ≤ j ∧ j < 2 ^ 62) ∧ R (Itr i (j - i).toNat) H1) : iRng2 ta σ H R := h
theorem izip' {K : PySem.W.Frag} {t : TA} {σ : L2.St} {H : Hp} {R : It → Hp → Prop} (h : t σ H fun vs H1 => ∃ a b xs ys, vs = [.ref a, .ref b] ∧ ((SqL K H1 a xs ∧ SqL K H1 b ys ∧ R (Itz K a b) H1) ∨ (SqT K H1 a xs ∧ SqT K H1 b ys ∧ R (RZ.ItzT K a b) H1))) : RZ.iZipA K t σ H R := h
theorem ienum {K : PySem.W.Frag} {t : TA} {σ : L2.St} {H : Hp} {R : It → Hp → Prop} (h : t σ H fun vs H1 => ∃ a xs, vs = [.ref a] ∧ SqL K H1 a xs ∧ R (Ite K a) H1) : iEnum K t σ H R := h
end RD
namespace BV
open PySem PySem.Spec PyProof.Rows L2 G0
/-- these items come of the walk J, as long as these values and objects stay -/
structure WkI (K : PySem.W.Frag) (o : Sr) (J : It) (tm : List (B × V)) (t2 : List (Addr × HO)) (ds : List B) : Prop where
  go : ∀ (Z : AS) (H : Hp) (i : Nat), (∀ b v, (b, v) ∈ tm → Rp K Z o H b v) → (∀ a u, (a, u) ∈ t2 → H a = some u) → i < ds.length → J.go i H
  stop : ∀ (Z : AS) (H : Hp) (i : Nat), (∀ b v, (b, v) ∈ tm → Rp K Z o H b v) → (∀ a u, (a, u) ∈ t2 → H a = some u) → ds.length ≤ i → J.stop i H
  yld : ∀ (Z : AS) (H : Hp) (i : Nat) (x : V) (H' : Hp), (∀ b v, (b, v) ∈ tm → Rp K Z o H b v) → (∀ a u, (a, u) ∈ t2 → H a = some u) → (∀ p, Z p → H p ≠ none) → J.yld i H x H' → i < ds.length → Same H H' ∧ ∃ d, ds[i]? = some d ∧ Rp K Z o H' d x
section
variable (G : DK) (K : PySem.W.Frag)
def bwI (wi : TI) (Γ : List Cell) (Post : List B → Prop) : Prop := ∀ (W : Wd) (σ : L2.St) (H : Hp) (R : It → Hp → Prop), Env G K W Γ σ H →
  (∀ (ds : List B) (tm : List (B × V)) (t2 : List (Addr × HO)) (J : It) (H' : Hp), Post ds → Kp W.o H H' → Env G K W Γ σ H' → (∀ b v, (b, v) ∈ tm → Rp K (ZZ W Γ σ) W.o H' b v) → (∀ a u, (a, u) ∈ t2 → H' a = some u ∧ ¬ ZZ W Γ σ a) → WkI K W.o J tm t2 ds → R J H') → wi σ H R
def bwG (g : TG) (d : B) (Γ : List Cell) (P : List Cell → Prop) : Prop := ∀ (W : Wd) (σ : L2.St) (H : Hp) (v : V) (QS : L2.St → Hp → Prop), Env G K W Γ σ H → Rp K (ZZ W Γ σ) W.o H d v →
  (∀ (Γ' : List Cell) (σ' : L2.St), P Γ' → Env G K W Γ' σ' H → QS σ' H) → g v σ H QS
def bwGs (g : TGs) (ds : List B) (Γ : List Cell) (P : List Cell → Prop) : Prop := ∀ (W : Wd) (σ : L2.St) (H : Hp) (vs : List V) (QS : L2.St → Hp → Prop), Env G K W Γ σ H → Rps K (ZZ W Γ σ) W.o H ds vs →
  (∀ (Γ' : List Cell) (σ' : L2.St), P Γ' → Env G K W Γ' σ' H → QS σ' H) → g vs σ H QS
/-- .. within a comprehension -/
def bwGv (ws : List Nat) (g : TG) (d : B) (Γ : List Cell) (P : List Cell → Prop) : Prop := ∀ (W : Wd) (σ : L2.St) (H : Hp) (v : V) (QS : L2.St → Hp → Prop), Env G K W Γ σ H → Rp K (ZZ W Γ σ) W.o H d v →
  (∀ (Γ' : List Cell) (σ' : L2.St), P Γ' → wipe σ' ws = wipe σ ws → Env G K W Γ' σ' H → QS σ' H) → g v σ H QS
def bwGvs (ws : List Nat) (g : TGs) (ds : List B) (Γ : List Cell) (P : List Cell → Prop) : Prop := ∀ (W : Wd) (σ : L2.St) (H : Hp) (vs : List V) (QS : L2.St → Hp → Prop), Env G K W Γ σ H → Rps K (ZZ W Γ σ) W.o H ds vs →
  (∀ (Γ' : List Cell) (σ' : L2.St), P Γ' → wipe σ' ws = wipe σ ws → Env G K W Γ' σ' H → QS σ' H) → g vs σ H QS
end
def hideC : Cell → Cell
  | .ow _ => .no
  | c => c
/-- what a comprehension sees of the names -/
def wipeC (Γ : List Cell) : List Nat → List Cell
  | [] => Γ.map hideC
  | v :: vs => (wipeC Γ vs).set v .no
theorem wipe_get {σ : L2.St} {i : Nat} : ∀ {ws : List Nat}, i ∉ ws → (wipe σ ws)[i]? = σ[i]?
  | [], _ => rfl
  | w :: ws, h => by
    rw [List.mem_cons, not_or] at h
    show ((wipe σ ws).set w none)[i]? = _
    rw [List.getElem?_set_ne (fun e => h.1 e.symm)]
    exact wipe_get h.2
theorem wipeC_get {Γ : List Cell} {i : Nat} {c : Cell} : ∀ {ws : List Nat}, (wipeC Γ ws)[i]? = some c → c ≠ .no → i ∉ ws ∧ ∃ c', Γ[i]? = some c' ∧ hideC c' = c
  | [], h, hc => by
    have h' : (Γ.map hideC)[i]? = some c := h
    rw [List.getElem?_map] at h'
    cases e : Γ[i]? with
    | none => rw [e] at h'; cases h'
    | some c' =>
      rw [e] at h'
      exact ⟨List.not_mem_nil, c', rfl, Option.some.inj h'⟩
  | w :: ws, h, hc => by
    have h' : ((wipeC Γ ws).set w .no)[i]? = some c := h
    by_cases hw : w = i
    · subst hw
      rw [List.getElem?_set] at h'
      simp at h'
      exact absurd h'.2.symm hc
    · rw [List.getElem?_set_ne hw] at h'
      obtain ⟨a, b⟩ := wipeC_get h' hc
      exact ⟨fun z => (List.mem_cons.mp z).elim (fun e => hw e.symm) a, b⟩
theorem wipeC_len {Γ : List Cell} : ∀ {ws : List Nat}, (wipeC Γ ws).length = Γ.length
  | [] => List.length_map ..
  | w :: ws => by
    show ((wipeC Γ ws).set w .no).length = _
    rw [List.length_set, wipeC_len]
theorem wipe_in {σ : L2.St} {j : Nat} : ∀ {ws : List Nat}, j ∈ ws → j < σ.length → (wipe σ ws)[j]? = some none
  | [], h, _ => (List.not_mem_nil h).elim
  | w :: ws, h, hj => by
    show ((wipe σ ws).set w none)[j]? = _
    by_cases e : w = j
    · subst e
      rw [List.getElem?_set_self (by rw [wipe_length]; exact hj)]
    · rw [List.getElem?_set_ne e]
      exact wipe_in ((List.mem_cons.mp h).elim (fun z => absurd z.symm e) id) hj
theorem wipe_idem {σ : L2.St} {ws : List Nat} : wipe (wipe σ ws) ws = wipe σ ws := by
  refine List.ext_getElem? fun j => ?_
  by_cases hj : j ∈ ws
  · by_cases hl : j < σ.length
    · rw [wipe_in hj (by rw [wipe_length]; exact hl), wipe_in hj hl]
    · rw [List.getElem?_eq_none (by rw [wipe_length, wipe_length]; omega), List.getElem?_eq_none (by rw [wipe_length]; omega)]
  · rw [wipe_get hj]
theorem wipe_set {σ : L2.St} {i : Nat} {x : Option V} : ∀ {ws : List Nat}, i ∈ ws → wipe (σ.set i x) ws = wipe σ ws
  | [], h => (List.not_mem_nil h).elim
  | w :: ws, h => by
    show (wipe (σ.set i x) ws).set w none = (wipe σ ws).set w none
    rcases List.mem_cons.mp h with e | h
    · subst e
      by_cases hi : i ∈ ws
      · rw [wipe_set hi]
      · have : wipe (σ.set i x) ws = (wipe σ ws).set i x := by
          clear h
          induction ws with
          | nil => rfl
          | cons w ws ih =>
            rw [List.mem_cons, not_or] at hi
            show (wipe (σ.set i x) ws).set w none = ((wipe σ ws).set w none).set i x
            rw [ih hi.2, List.set_comm _ _ hi.1]
        rw [this, set_set]
    · rw [wipe_set h]
section
variable {G : DK} {K : PySem.W.Frag} {W : Wd} {Γ : List Cell} {σ : L2.St} {H H' H1 : Hp} {Post P : B → Prop} {te ta tb : TE} {t tr : TA} {c c1 c2 tt : TT} {t1 t2 : TS} {e : En} {wi : TI} {g : TG} {gs : TGs} {Pg : List Cell → Prop} {d : B} {ds : List B} {ws : List Nat}
/-! ### targets -/
theorem gname {i : Nat} (h : Pg (Γ.set i (.sh d))) : bwG G K (gName i) d Γ Pg := fun W σ H v QS E r q => RD.gname (q _ _ h (E.set r))
instance st_gname {i : Nat} : BVSt (bwG G K (gName i) d Γ Pg) (Pg (Γ.set i (.sh d))) := ⟨fun h => gname h⟩
theorem gnil (h : Pg Γ) : bwGs G K gNil [] Γ Pg := fun W σ H vs QS E r q => by
  rw [rps_nil.mp r]
  exact RD.gnil (q _ _ h E)
instance st_gnil  : BVSt (bwGs G K gNil [] Γ Pg) (Pg Γ) := ⟨fun h => gnil h⟩
theorem gcons (h : bwG G K g d Γ fun g' => bwGs G K gs ds g' Pg) : bwGs G K (gCons g gs) (d :: ds) Γ Pg := fun W σ H vs QS E r q => by
  obtain ⟨v, rest, rfl, r1, r2⟩ := rps_cons.mp r
  have hk : ∀ b u, (b, u) ∈ ds.zip rest → Rp K (ZZ W Γ σ) W.o H b u := fun b u hb => by
    obtain ⟨i, hi⟩ := List.getElem?_of_mem hb
    obtain ⟨a1, a2⟩ := List.getElem?_zip_eq_some.mp hi
    obtain ⟨u', b1, b2⟩ := rps_at r2 a1
    rw [a2] at b1
    obtain rfl : u = u' := Option.some.inj b1
    exact b2
  refine RD.gcons (h (W.keep (ds.zip rest)) σ H v _ (E.keep hk) r1 fun Γ' σ' p E' => p W σ' H rest QS E'.drop ?_ q)
  have hl := rps_len r2
  have all : ∀ (l : List B) (m : List V), l.length = m.length → (∀ b u, (b, u) ∈ l.zip m → Rp K (ZZ W Γ' σ') W.o H b u) → Rps K (ZZ W Γ' σ') W.o H l m := by
    intro l
    induction l with
    | nil =>
      intro m hm _
      rw [List.eq_nil_of_length_eq_zero hm.symm]
      exact rps_nil.mpr rfl
    | cons a l ih =>
      intro m hm hh
      cases m with
      | nil => cases hm
      | cons u m => exact rps_cons.mpr ⟨u, m, rfl, hh a u (List.mem_cons_self ..), ih m (Nat.succ.inj hm) fun b v hb => hh b v (List.mem_cons_of_mem _ hb)⟩
  exact all ds rest hl fun b u hb => E'.tmp b u (List.mem_append_left _ hb)
instance st_gcons  : BVSt (bwGs G K (gCons g gs) (d :: ds) Γ Pg) (bwG G K g d Γ fun g' => bwGs G K gs ds g' Pg) := ⟨fun h => gcons h⟩
theorem gtup {n : Nat} (hn : ds.length = n) (h : bwGs G K gs ds Γ Pg) : bwG G K (gTup K n gs) (.tup ds) Γ Pg := fun W σ H v QS E r q => by
  obtain ⟨p, vs, rfl, h1, h2⟩ := rp_tup.mp r
  exact RD.unp h1.sq (by rw [← rps_len h2]; exact hn) (h W σ H vs QS E h2 q)
instance st_gtup {n : Nat} [h : BVLen ds n] : BVSt (bwG G K (gTup K n gs) (.tup ds) Γ Pg) (bwGs G K gs ds Γ Pg) := ⟨fun q => gtup h.eq q⟩
theorem vname {i : Nat} (hi : i ∈ ws) (h : Pg (Γ.set i (.sh d))) : bwGv G K ws (gName i) d Γ Pg := fun W σ H v QS E r q => RD.gname (q _ _ h (wipe_set hi) (E.set r))
theorem vnil (h : Pg Γ) : bwGvs G K ws gNil [] Γ Pg := fun W σ H vs QS E r q => by
  rw [rps_nil.mp r]
  exact RD.gnil (q _ _ h rfl E)
instance st_vnil  : BVSt (bwGvs G K ws gNil [] Γ Pg) (Pg Γ) := ⟨fun h => vnil h⟩
theorem vcons (h : bwGv G K ws g d Γ fun g' => bwGvs G K ws gs ds g' Pg) : bwGvs G K ws (gCons g gs) (d :: ds) Γ Pg := fun W σ H vs QS E r q => by
  obtain ⟨v, rest, rfl, r1, r2⟩ := rps_cons.mp r
  have hk : ∀ b u, (b, u) ∈ ds.zip rest → Rp K (ZZ W Γ σ) W.o H b u := fun b u hb => by
    obtain ⟨i, hi⟩ := List.getElem?_of_mem hb
    obtain ⟨a1, a2⟩ := List.getElem?_zip_eq_some.mp hi
    obtain ⟨u', b1, b2⟩ := rps_at r2 a1
    rw [a2] at b1
    obtain rfl : u = u' := Option.some.inj b1
    exact b2
  refine RD.gcons (h (W.keep (ds.zip rest)) σ H v _ (E.keep hk) r1 fun Γ' σ' p hw E' => p W σ' H rest QS E'.drop ?_ fun Γ2 σ2 p2 hw2 => q Γ2 σ2 p2 (hw2.trans hw))
  have hl := rps_len r2
  have all : ∀ (l : List B) (m : List V), l.length = m.length → (∀ b u, (b, u) ∈ l.zip m → Rp K (ZZ W Γ' σ') W.o H b u) → Rps K (ZZ W Γ' σ') W.o H l m := by
    intro l
    induction l with
    | nil =>
      intro m hm _
      rw [List.eq_nil_of_length_eq_zero hm.symm]
      exact rps_nil.mpr rfl
    | cons a l ih =>
      intro m hm hh
      cases m with
      | nil => cases hm
      | cons u m => exact rps_cons.mpr ⟨u, m, rfl, hh a u (List.mem_cons_self ..), ih m (Nat.succ.inj hm) fun b v hb => hh b v (List.mem_cons_of_mem _ hb)⟩
  exact all ds rest hl fun b u hb => E'.tmp b u (List.mem_append_left _ hb)
instance st_vcons  : BVSt (bwGvs G K ws (gCons g gs) (d :: ds) Γ Pg) (bwGv G K ws g d Γ fun g' => bwGvs G K ws gs ds g' Pg) := ⟨fun h => vcons h⟩
theorem vtup {n : Nat} (hn : ds.length = n) (h : bwGvs G K ws gs ds Γ Pg) : bwGv G K ws (gTup K n gs) (.tup ds) Γ Pg := fun W σ H v QS E r q => by
  obtain ⟨p, vs, rfl, h1, h2⟩ := rp_tup.mp r
  exact RD.unp h1.sq (by rw [← rps_len h2]; exact hn) (h W σ H vs QS E h2 q)
instance st_vtup {n : Nat} [h : BVLen ds n] : BVSt (bwGv G K ws (gTup K n gs) (.tup ds) Γ Pg) (bwGvs G K ws gs ds Γ Pg) := ⟨fun q => vtup h.eq q⟩
theorem asgG (h : bwE G K te Γ fun b => bwG G K g b Γ e.N) : bwS G K (tAsg te g) Γ e := fun W σ H D E q1 q2 q3 q4 q5 =>
  RD.asg (h W σ H _ E fun b v H1 p k1 E1 r1 => p W σ H1 v _ E1 r1 fun Γ' σ' n E' => q1 _ _ _ n E')
instance st_asgG [BVPl te] {n : Nat} : BVSt (bwS G K (tAsg te (gTup K n gs)) Γ e) (bwE G K te Γ fun b => bwG G K (gTup K n gs) b Γ e.N) := ⟨fun h => asgG h⟩
/-! ### what is walked -/
theorem wlist (h : bwE G K te Γ fun b => ∃ ds, b = .lst ds ∧ Pl ds) : bwI G K (iList K te) Γ Pl := fun W σ H R E q =>
  RD.ilist (h W σ H _ E fun b v H1 p k1 E1 r1 => by
    obtain ⟨ds, rfl, p⟩ := p
    obtain ⟨a, vs, rfl, hz, h1, h2⟩ := rp_lst.mp r1
    refine ⟨a, rfl, ⟨vs, SqL.of h1⟩, q ds [(.lst ds, .ref a)] [] _ H1 p k1 E1 (fun b u hb => ?_) (fun _ _ z => (List.not_mem_nil z).elim) ?_⟩
    · rw [List.mem_singleton] at hb
      cases hb
      exact r1
    · have get : ∀ {Z : AS} {H : Hp}, (∀ b v, (b, v) ∈ [(B.lst ds, V.ref a)] → Rp K Z W.o H b v) → ∃ vs, H a = some (.lst vs) ∧ Rps K Z W.o H ds vs := fun hh => by
        obtain ⟨p, vs, e, _, a1, a2⟩ := rp_lst.mp (hh _ _ (List.mem_singleton.mpr rfl))
        cases e
        exact ⟨vs, a1, a2⟩
      refine ⟨fun Z H i hh _ hi => ?_, fun Z H i hh _ hi => ?_, fun Z H i x H' hh _ _ hy hi => ?_⟩
      · obtain ⟨vs, a1, a2⟩ := get hh
        have : i < vs.length := by rw [← rps_len a2]; exact hi
        exact ⟨vs, vs[i], SqL.of a1, List.getElem?_eq_getElem this⟩
      · obtain ⟨vs, a1, a2⟩ := get hh
        exact ⟨vs, SqL.of a1, by rw [← rps_len a2]; exact hi⟩
      · obtain ⟨vs, a1, a2⟩ := get hh
        obtain ⟨rfl, hx⟩ := hy
        obtain ⟨d, b1, b2⟩ := rps_atv a2 (hx vs (SqL.of a1))
        exact ⟨Same.refl _, d, b1, b2⟩)
instance st_wlist  : BVSt (bwI G K (iList K te) Γ Pl) (bwE G K te Γ fun b => ∃ ds, b = .lst ds ∧ Pl ds) := ⟨fun h => wlist h⟩
theorem wtup (h : bwE G K te Γ fun b => ∃ ds, b = .tup ds ∧ Pl ds) : bwI G K (iTup K te) Γ Pl := fun W σ H R E q =>
  RD.itup (h W σ H _ E fun b v H1 p k1 E1 r1 => by
    obtain ⟨ds, rfl, p⟩ := p
    obtain ⟨a, vs, rfl, h1, h2⟩ := rp_tup.mp r1
    refine ⟨a, rfl, ⟨vs, h1.sq⟩, q ds [(.tup ds, .ref a)] [] _ H1 p k1 E1 (fun b u hb => ?_) (fun _ _ z => (List.not_mem_nil z).elim) ?_⟩
    · rw [List.mem_singleton] at hb
      cases hb
      exact r1
    · have get : ∀ {Z : AS} {H : Hp}, (∀ b v, (b, v) ∈ [(B.tup ds, V.ref a)] → Rp K Z W.o H b v) → ∃ vs, SqT K H a vs ∧ Rps K Z W.o H ds vs := fun hh => by
        obtain ⟨p, vs, e, a1, a2⟩ := rp_tup.mp (hh _ _ (List.mem_singleton.mpr rfl))
        cases e
        exact ⟨vs, a1.sq, a2⟩
      refine ⟨fun Z H i hh _ hi => ?_, fun Z H i hh _ hi => ?_, fun Z H i x H' hh _ _ hy hi => ?_⟩
      · obtain ⟨vs, a1, a2⟩ := get hh
        have : i < vs.length := by rw [← rps_len a2]; exact hi
        exact ⟨vs, vs[i], a1, List.getElem?_eq_getElem this⟩
      · obtain ⟨vs, a1, a2⟩ := get hh
        exact ⟨vs, a1, by rw [← rps_len a2]; exact hi⟩
      · obtain ⟨vs, a1, a2⟩ := get hh
        obtain ⟨rfl, hx⟩ := hy
        obtain ⟨d, b1, b2⟩ := rps_atv a2 (hx vs a1)
        exact ⟨Same.refl _, d, b1, b2⟩)
instance st_wtup  : BVSt (bwI G K (iTup K te) Γ Pl) (bwE G K te Γ fun b => ∃ ds, b = .tup ds ∧ Pl ds) := ⟨fun h => wtup h⟩
/-- the signs of a text, each a text -/
def signs (z : Str) : List B := z.cps.toList.map fun c => B.str ⟨#[c]⟩
theorem wstr (h : bwE G K te Γ fun b => ∃ z, b = .str z ∧ Pl (signs z)) : bwI G K (iStr te) Γ Pl := fun W σ H R E q =>
  RD.istr' (h W σ H _ E fun b v H1 p k1 E1 r1 => by
    obtain ⟨z, rfl, p⟩ := p
    refine ⟨z, rp_str.mp r1, q (signs z) [] [] _ H1 p k1 E1 (fun b u hb => (List.not_mem_nil hb).elim) (fun _ _ z => (List.not_mem_nil z).elim) ?_⟩
    have hl : (signs z).length = z.cps.size := by unfold signs; rw [List.length_map, Array.length_toList]
    refine ⟨fun Z H i hh _ hi => by rw [hl] at hi; exact hi, fun Z H i hh _ hi => by rw [hl] at hi; exact hi, fun Z H i x H' hh _ _ hy hi => ?_⟩
    obtain ⟨rfl, c, hc, rfl⟩ := hy
    refine ⟨Same.refl _, .str ⟨#[c]⟩, ?_, rp_str.mpr rfl⟩
    unfold signs
    rw [List.getElem?_map, Array.getElem?_toList, hc]
    rfl)
instance st_wstr  : BVSt (bwI G K (iStr te) Γ Pl) (bwE G K te Γ fun b => ∃ z, b = .str z ∧ Pl (signs z)) := ⟨fun h => wstr h⟩
/-- lo, lo + 1, .. -/
def rng (lo : Int) (n : Nat) : List B := (List.range n).map fun (i : Nat) => B.int (lo + (i : Int))
theorem rng_len {lo : Int} {n : Nat} : (rng lo n).length = n := by unfold rng; rw [List.length_map, List.length_range]
theorem wk_rng {o : Sr} {lo : Int} {n : Nat} : WkI K o (Itr lo n) [] [] (rng lo n) := by
  refine ⟨fun Z H i hh _ hi => by rw [rng_len] at hi; exact hi, fun Z H i hh _ hi => by rw [rng_len] at hi; exact hi, fun Z H i x H' hh _ _ hy hi => ?_⟩
  obtain ⟨rfl, rfl⟩ := hy
  rw [rng_len] at hi
  refine ⟨Same.refl _, .int (lo + (i : Int)), ?_, rp_int.mpr rfl⟩
  unfold rng
  rw [List.getElem?_map, List.getElem?_range hi]
  rfl
theorem wrng1 (h : bwA G K t Γ fun bs => ∃ n : Nat, bs = [.int n] ∧ n < 2 ^ 62 ∧ Pl (rng 0 n)) : bwI G K (iRng1 t) Γ Pl := fun W σ H R E q =>
  RD.irng1 (h W σ H _ E fun bs vs H1 p k1 E1 r1 => by
    obtain ⟨n, rfl, hn, p⟩ := p
    obtain ⟨v, r, rfl, a1, a2⟩ := rps_cons.mp r1
    rw [rps_nil.mp a2, rp_int.mp a1]
    refine ⟨n, rfl, by omega, by omega, q _ [] [] _ H1 p k1 E1 (fun b u hb => (List.not_mem_nil hb).elim) (fun _ _ z => (List.not_mem_nil z).elim) ?_⟩
    rw [Int.toNat_natCast]
    exact wk_rng)
instance st_wrng1  : BVSt (bwI G K (iRng1 t) Γ Pl) (bwA G K t Γ fun bs => ∃ n : Nat, bs = [.int n] ∧ n < 2 ^ 62 ∧ Pl (rng 0 n)) := ⟨fun h => wrng1 h⟩
theorem wrng2 (h : bwA G K t Γ fun bs => ∃ i j : Int, bs = [.int i, .int j] ∧ (-(2 ^ 62) ≤ i ∧ i < 2 ^ 62 ∧ -(2 ^ 62) ≤ j ∧ j < 2 ^ 62) ∧ Pl (rng i (j - i).toNat)) : bwI G K (iRng2 t) Γ Pl := fun W σ H R E q =>
  RD.irng2 (h W σ H _ E fun bs vs H1 p k1 E1 r1 => by
    obtain ⟨i, j, rfl, hn, p⟩ := p
    obtain ⟨v, r, rfl, a1, a2⟩ := rps_cons.mp r1
    obtain ⟨v2, r2, rfl, b1, b2⟩ := rps_cons.mp a2
    rw [rps_nil.mp b2, rp_int.mp a1, rp_int.mp b1]
    exact ⟨i, j, rfl, hn, q _ [] [] _ H1 p k1 E1 (fun b u hb => (List.not_mem_nil hb).elim) (fun _ _ z => (List.not_mem_nil z).elim) wk_rng⟩)
instance st_wrng2  : BVSt (bwI G K (iRng2 t) Γ Pl) (bwA G K t Γ fun bs => ∃ i j : Int, bs = [.int i, .int j] ∧ (-(2 ^ 62) ≤ i ∧ i < 2 ^ 62 ∧ -(2 ^ 62) ≤ j ∧ j < 2 ^ 62) ∧ Pl (rng i (j - i).toNat)) := ⟨fun h => wrng2 h⟩
/-- pairs -/
def pairs (xs ys : List B) : List B := (xs.zip ys).map fun q => B.tup [q.1, q.2]
theorem wzip (h : bwA G K t Γ fun bs => ∃ xs ys, bs = [.tup xs, .tup ys] ∧ Pl (pairs xs ys)) : bwI G K (RZ.iZipA K t) Γ Pl := fun W σ H R E q =>
  RD.izip' (h W σ H _ E fun bs vs H1 p k1 E1 r1 => by
    obtain ⟨xs, ys, rfl, p⟩ := p
    obtain ⟨v, r, rfl, a1, a2⟩ := rps_cons.mp r1
    obtain ⟨v2, r2, rfl, b1, b2⟩ := rps_cons.mp a2
    obtain rfl := rps_nil.mp b2
    obtain ⟨pa, va, rfl, s1, t1⟩ := rp_tup.mp a1
    obtain ⟨pb, vb, rfl, s2, t2⟩ := rp_tup.mp b1
    refine ⟨pa, pb, va, vb, rfl, .inr ⟨s1.sq, s2.sq, q _ [(.tup xs, .ref pa), (.tup ys, .ref pb)] [] _ H1 p k1 E1 (fun b u hb => ?_) (fun _ _ z => (List.not_mem_nil z).elim) ?_⟩⟩
    · rcases List.mem_cons.mp hb with e | hb
      · cases e
        exact a1
      · rw [List.mem_singleton] at hb
        cases hb
        exact b1
    · have get : ∀ {Z : AS} {H : Hp}, (∀ b v, (b, v) ∈ [(B.tup xs, V.ref pa), (B.tup ys, V.ref pb)] → Rp K Z W.o H b v) → ∃ va vb, SqT K H pa va ∧ SqT K H pb vb ∧ Rps K Z W.o H xs va ∧ Rps K Z W.o H ys vb := fun hh => by
        obtain ⟨p, vs, e, a1, a2⟩ := rp_tup.mp (hh _ _ (List.mem_cons_self ..))
        obtain ⟨p', vs', e', a1', a2'⟩ := rp_tup.mp (hh _ _ (List.mem_cons_of_mem _ (List.mem_singleton.mpr rfl)))
        cases e
        cases e'
        exact ⟨vs, vs', a1.sq, a1'.sq, a2, a2'⟩
      have hl : (pairs xs ys).length = min xs.length ys.length := by unfold pairs; rw [List.length_map, List.length_zip]
      refine ⟨fun Z H i hh _ hi => ?_, fun Z H i hh _ hi => ?_, fun Z H i x H' hh _ hz hy hi => ?_⟩
      · obtain ⟨va, vb, a1, b1, a2, b2⟩ := get hh
        have h1 : i < va.length := by rw [← rps_len a2]; omega
        have h2 : i < vb.length := by rw [← rps_len b2]; omega
        exact ⟨va, vb, va[i], vb[i], a1, b1, List.getElem?_eq_getElem h1, List.getElem?_eq_getElem h2⟩
      · obtain ⟨va, vb, a1, b1, a2, b2⟩ := get hh
        have h1 := rps_len a2
        have h2 := rps_len b2
        refine ⟨va, vb, a1, b1, ?_⟩
        rcases Nat.le_total xs.length ys.length with h | h
        · exact .inl (by omega)
        · exact .inr (by omega)
      · obtain ⟨va, vb, a1, b1, a2, b2⟩ := get hh
        obtain ⟨T, x, y, rfl, hT, rfl, hx, hy⟩ := hy
        obtain ⟨d1, c1, c2⟩ := rps_atv a2 (hx va a1)
        obtain ⟨d2, e1, e2⟩ := rps_atv b2 (hy vb b1)
        have off : ∀ b u, (¬ Z b ∨ isS W.o b) → ¬ Z b → H b = some u → upd H T (.tup [x, y]) b = some u := fun b u _ _ hb => by
          rw [upd_ne (ne_of_none hb hT)]
          exact hb
        refine ⟨(Same.refl H).nw hT, .tup [d1, d2], ?_, rp_tup.mpr ⟨T, [x, y], rfl, .inl ⟨upd_same, fun z => hz T z hT⟩, rps_cons.mpr ⟨x, [y], rfl, c2.off off, rps_one (e2.off off)⟩⟩⟩
        unfold pairs
        have ez : (xs.zip ys)[i]? = some (d1, d2) := List.getElem?_zip_eq_some.mpr ⟨c1, e1⟩
        rw [List.getElem?_map, ez]
        rfl)
instance st_wzip  : BVSt (bwI G K (RZ.iZipA K t) Γ Pl) (bwA G K t Γ fun bs => ∃ xs ys, bs = [.tup xs, .tup ys] ∧ Pl (pairs xs ys)) := ⟨fun h => wzip h⟩
/-- (0, x), (1, y), .. -/
def numbered (xs : List B) : List B := xs.zipIdx.map fun q => B.tup [.int (q.2 : Nat), q.1]
theorem wenum (h : bwA G K t Γ fun bs => ∃ xs, bs = [.lst xs] ∧ Pl (numbered xs)) : bwI G K (iEnum K t) Γ Pl := fun W σ H R E q =>
  RD.ienum (h W σ H _ E fun bs vs H1 p k1 E1 r1 => by
    obtain ⟨xs, rfl, p⟩ := p
    obtain ⟨v, r, rfl, a1, a2⟩ := rps_cons.mp r1
    obtain rfl := rps_nil.mp a2
    obtain ⟨pa, va, rfl, z1, s1, t1⟩ := rp_lst.mp a1
    refine ⟨pa, va, rfl, SqL.of s1, q _ [(.lst xs, .ref pa)] [] _ H1 p k1 E1 (fun b u hb => ?_) (fun _ _ z => (List.not_mem_nil z).elim) ?_⟩
    · rw [List.mem_singleton] at hb
      cases hb
      exact a1
    · have get : ∀ {Z : AS} {H : Hp}, (∀ b v, (b, v) ∈ [(B.lst xs, V.ref pa)] → Rp K Z W.o H b v) → ∃ va, SqL K H pa va ∧ Rps K Z W.o H xs va := fun hh => by
        obtain ⟨p, vs, e, _, a1, a2⟩ := rp_lst.mp (hh _ _ (List.mem_singleton.mpr rfl))
        cases e
        exact ⟨vs, SqL.of a1, a2⟩
      have hl : (numbered xs).length = xs.length := by unfold numbered; rw [List.length_map, List.length_zipIdx]
      refine ⟨fun Z H i hh _ hi => ?_, fun Z H i hh _ hi => ?_, fun Z H i x H' hh _ hz hy hi => ?_⟩
      · obtain ⟨va, a1, a2⟩ := get hh
        have h1 : i < va.length := by rw [← rps_len a2]; omega
        exact ⟨va, va[i], a1, List.getElem?_eq_getElem h1⟩
      · obtain ⟨va, a1, a2⟩ := get hh
        have h1 := rps_len a2
        exact ⟨va, a1, by omega⟩
      · obtain ⟨va, a1, a2⟩ := get hh
        obtain ⟨T, x, rfl, hT, rfl, hx⟩ := hy
        obtain ⟨d1, c1, c2⟩ := rps_atv a2 (hx va a1)
        have off : ∀ b u, (¬ Z b ∨ isS W.o b) → ¬ Z b → H b = some u → upd H T (.tup [.int (i : Nat), x]) b = some u := fun b u _ _ hb => by
          rw [upd_ne (ne_of_none hb hT)]
          exact hb
        refine ⟨(Same.refl H).nw hT, .tup [.int (i : Nat), d1], ?_, rp_tup.mpr ⟨T, _, rfl, .inl ⟨upd_same, fun z => hz T z hT⟩, rps_cons.mpr ⟨_, [x], rfl, rp_int.mpr rfl, rps_one (c2.off off)⟩⟩⟩
        unfold numbered
        rw [List.getElem?_map, List.getElem?_zipIdx, c1]
        simp)
instance st_wenum  : BVSt (bwI G K (iEnum K t) Γ Pl) (bwA G K t Γ fun bs => ∃ xs, bs = [.lst xs] ∧ Pl (numbered xs)) := ⟨fun h => wenum h⟩
/-! ### for, while -/
theorem forI (h : bwI G K wi Γ fun ds => ∃ I : Nat → List Cell → Prop, I 0 Γ ∧ (∀ k d Γ', ds[k]? = some d → I k Γ' → bwG G K g d Γ' fun g' => bwS G K t1 g' ⟨I (k + 1), e.R, e.N, I (k + 1), e.RO⟩) ∧ ∀ Γ', I ds.length Γ' → e.N Γ') : bwS G K (tFor wi g t1) Γ e := fun W σ H D E q1 q2 q3 q4 q5 => by
  refine h W σ H _ E fun ds tm t2 J H1 p k1 E1 htm ht2 wk => ?_
  obtain ⟨I, i0, step, done⟩ := p
  refine ⟨fun i m σ' H' => m = ds.length - i ∧ i ≤ ds.length ∧ ∃ Γ', I i Γ' ∧ Env G K ((W.keep2 t2).keep tm) Γ' σ' H', ⟨ds.length, rfl, Nat.zero_le _, Γ, i0, (E1.keep2 ht2).keep htm⟩, fun i m σ' H' hI => ?_⟩
  obtain ⟨rfl, hi, Γ', hI, E'⟩ := hI
  have tm' : ∀ b v, (b, v) ∈ tm → Rp K (ZZ ((W.keep2 t2).keep tm) Γ' σ') W.o H' b v := fun b v hb => E'.tmp b v (List.mem_append_left _ hb)
  have t2' : ∀ a u, (a, u) ∈ t2 → H' a = some u := fun a u ha => (E'.tm2 a u (List.mem_append_left _ ha)).1
  rcases Nat.lt_or_ge i ds.length with hlt | hge
  · refine .inr ⟨wk.go _ _ _ tm' t2' hlt, fun σ2 H2 => ∃ Γ2, I (i + 1) Γ2 ∧ Env G K ((W.keep2 t2).keep tm) Γ2 σ2 H2, fun σ2 H2 ⟨Γ2, j, E2⟩ => ⟨_, by omega, rfl, hlt, Γ2, j, E2⟩, fun x H2 hy => ?_⟩
    obtain ⟨s2, d, hd, rd⟩ := wk.yld _ _ _ _ _ tm' t2' E'.zz hy hlt
    exact step i d Γ' hd hI ((W.keep2 t2).keep tm) σ' H2 x _ (E'.same s2) rd fun Γ2 σ2 b2 E2 => b2 ((W.keep2 t2).keep tm) σ2 H2 _ E2 (fun Γ3 σ3 H3 n E3 => ⟨Γ3, n, E3⟩) (fun b v H3 r f => q2 b v H3 r f) (fun Γ3 σ3 H3 n E3 => q1 Γ3 σ3 H3 n E3.drop.drop2) (fun Γ3 σ3 H3 n E3 => ⟨Γ3, n, E3⟩) (fun b p H3 r f => q5 b p H3 r f)
  · have e1 : i = ds.length := by omega
    subst e1
    exact .inl ⟨wk.stop _ _ _ tm' t2' hge, q1 Γ' σ' H' (done Γ' hI) E'.drop.drop2⟩
theorem while_ (I : Nat → List Cell → Prop) (m0 : Nat) (i0 : I m0 Γ) (step : ∀ m Γ', I m Γ' → bwT G K c Γ' fun b => if b = true then bwS G K t1 Γ' ⟨fun g' => ∃ m', m' < m ∧ I m' g', e.R, e.N, fun g' => ∃ m', m' < m ∧ I m' g', e.RO⟩ else e.N Γ') : bwS G K (tWhile c t1) Γ e := fun W σ H D E q1 q2 q3 q4 q5 => by
  refine ⟨fun m σ' H' => ∃ Γ', I m Γ' ∧ Env G K W Γ' σ' H', ⟨m0, Γ, i0, E⟩, fun m σ' H' ⟨Γ', hI, E'⟩ => step m Γ' hI W σ' H' _ E' fun b H1 p k1 E1 => ?_⟩
  cases b with
  | true =>
    rw [if_pos rfl] at p ⊢
    exact ⟨fun σ2 H2 => ∃ Γ2, (∃ m', m' < m ∧ I m' Γ2) ∧ Env G K W Γ2 σ2 H2, fun σ2 H2 ⟨Γ2, ⟨m', hm, j⟩, E2⟩ => ⟨m', hm, Γ2, j, E2⟩, p W σ' H1 _ E1 (fun Γ3 σ3 H3 n E3 => ⟨Γ3, n, E3⟩) q2 (fun Γ3 σ3 H3 n E3 => q1 Γ3 σ3 H3 n E3) (fun Γ3 σ3 H3 n E3 => ⟨Γ3, n, E3⟩) q5⟩
  | false =>
    rw [if_neg Bool.false_ne_true] at p ⊢
    exact q1 Γ' σ' H1 p E1
/-! ### list comprehensions -/
theorem Env.plusLate (E : Env G K W Γ σ H1) {D : Addr} (n : H1 D = none) (k : Kp W.o H1 H') (d : DOk G W H') (hD : H' D ≠ none) : Env G K (W.plus D) Γ σ H' := by
  cases h : H' D with
  | none => exact absurd h hD
  | some u =>
    refine (E.plus n (u := u)).step (fun b v hs hb => ?_) d
    by_cases e : b = D
    · subst e
      rw [upd_same] at hb
      rw [h, hb]
    · rw [upd_ne e] at hb
      exact k b v hs hb
/-- where a comprehension's block stands -/
def Wd.comp (W : Wd) (Γ : List Cell) (σ : L2.St) (H1 : Hp) (tm : List (B × V)) (t2 : List (Addr × HO)) (D : Addr) : Wd := ⟨H1, fun p => ZZ W Γ σ p ∨ p = D, W.o, tm ++ W.T, t2 ++ W.T2, W.HX, W.ZX⟩
theorem no_own {p : Addr} : ¬ ownA (wipeC Γ ws) (wipe σ ws) p := fun ⟨i, b, h1, _⟩ => by
  obtain ⟨_, c', _, e⟩ := wipeC_get h1 (fun z => nomatch z)
  cases c' <;> cases e
theorem Env.comp (E : Env G K W Γ σ H1) {D : Addr} (n : H1 D = none) {tm : List (B × V)} {t2 : List (Addr × HO)} (ht : ∀ b v, (b, v) ∈ tm → Rp K (ZZ W Γ σ) W.o H1 b v) (h2 : ∀ a u, (a, u) ∈ t2 → H1 a = some u ∧ ¬ ZZ W Γ σ a) {u : HO} : Env G K (W.comp Γ σ H1 tm t2 D) (wipeC Γ ws) (wipe σ ws) (upd H1 D u) := by
  obtain ⟨f1, f2, f3⟩ := E.fresh n
  have zz : ∀ p, ZZ (W.comp Γ σ H1 tm t2 D) (wipeC Γ ws) (wipe σ ws) p → ZZ W Γ σ p ∨ p = D := fun p z => z.elim id fun z => absurd z no_own
  have mvt : ∀ b, ¬ ZZ W Γ σ b → H1 b ≠ none → ¬ ZZ (W.comp Γ σ H1 tm t2 D) (wipeC Γ ws) (wipe σ ws) b := fun b nb hb z => (zz b z).elim nb fun e => hb (by rw [e]; exact n)
  have zs' : ∀ st, isS W.o st → ZZ (W.comp Γ σ H1 tm t2 D) (wipeC Γ ws) (wipe σ ws) st := fun st z => .inl (.inl (E.zs st z))
  have kk : Kp W.o H1 (upd H1 D u) := (Kp.refl).nw n
  have ob : ∀ a v, H1 a = some v ∧ ¬ ZZ W Γ σ a → upd H1 D u a = some v ∧ ¬ ZZ (W.comp Γ σ H1 tm t2 D) (wipeC Γ ws) (wipe σ ws) a := fun a v ⟨e, nz⟩ => ⟨by rw [upd_ne (ne_of_none e n)]; exact e, fun z => (zz a z).elim nz fun e2 => ne_of_none e n e2⟩
  refine ⟨by rw [wipeC_len, wipe_length, E.len], (E.nw n).dok, fun st cl e => ⟨.inl (.inl (E.src st cl e).1), fun z => (zz _ z).elim (E.src st cl e).2 fun e2 => ?_⟩, kk, fun p hp => ?_, fun b v hb => ?_, fun i b hb => ?_, fun i b hb => ?_, fun i j b c p h1 _ _ _ => ?_, E.lk.base.mv (fun q v _ _ hq => by rw [upd_ne (ne_of_none hq n)]; exact hq), E.wok, E.kx.trans E.kp, fun p z => ⟨.inl (.inl (E.zx p z).1), E.zt p (E.zx p z).1⟩, fun a v h => ?_⟩
  · obtain ⟨xs, q, _⟩ := G.cl (E.dok st cl e)
    rw [e2, n] at q
    cases q
  · rcases hp with hp | hp
    · exact (E.nw n).zz p hp
    · rw [show p = D from hp, upd_same]
      exact fun z => nomatch z
  · rcases List.mem_append.mp hb with hb | hb
    · exact ((ht b v hb).mv mvt).kp zs' kk
    · exact ((E.tmp b v hb).mv mvt).kp zs' kk
  · obtain ⟨hi, c', h1, h2⟩ := wipeC_get hb (fun z => nomatch z)
    cases c' with
    | sh b' =>
      cases h2
      obtain ⟨v, a1, a2⟩ := E.sh i b h1
      exact ⟨v, (wipe_get hi).trans a1, (a2.mv mvt).kp zs' kk⟩
    | no => cases h2
    | ow _ => cases h2
  · obtain ⟨_, c', _, h2⟩ := wipeC_get hb (fun z => nomatch z)
    cases c' <;> cases h2
  · obtain ⟨_, c', _, h2⟩ := wipeC_get h1 (fun z => nomatch z)
    cases c' <;> cases h2
  · rcases List.mem_append.mp h with h | h
    · exact ob a v (h2 a v h)
    · exact ob a v (E.tm2 a v h)
/-- what a comprehension asks of a turn -/
def LcT (G : DK) (K : PySem.W.Frag) (g : TG) (tt : TT) (te : TE) (ws : List Nat) (Γ : List Cell) (Post : B → Prop) (ds : List B) : Prop := ∃ I : Nat → List B → Prop, I 0 [] ∧ (∀ (k : Nat) (d : B) (acc : List B), ds[k]? = some d → I k acc → bwGv G K ws g d (wipeC Γ ws) fun g' => bwT G K tt g' fun b => if b = true then bwE G K te g' fun y => acc.length < sizeLine ∧ I (k + 1) (acc ++ [y]) else I (k + 1) acc) ∧ ∀ acc, I ds.length acc → Post (.lst acc)
theorem lc_go {tm : List (B × V)} {t2 : List (Addr × HO)} {J : It} {Q : VK} {D : Addr} (E1 : Env G K W Γ σ H1) (htm : ∀ b v, (b, v) ∈ tm → Rp K (ZZ W Γ σ) W.o H1 b v) (ht2 : ∀ a u, (a, u) ∈ t2 → H1 a = some u ∧ ¬ ZZ W Γ σ a) (wk : WkI K W.o J tm t2 ds) (p : LcT G K g tt te ws Γ Post ds) (hD : H1 D = none)
    (q : ∀ (acc : List B) (H' : Hp), Post (.lst acc) → Kp W.o H1 H' → Env G K (W.plus D) Γ σ H' → OwAt K (ZZ (W.plus D) Γ σ) W.o H' D (.lst acc) → (∀ a u, (a, u) ∈ t2 → H' a = some u) → Q (.ref D) H') :
    ∃ W : Nat → Nat → Hp → Prop, (∃ m, W 0 m (upd H1 D (.lst []))) ∧ ∀ i m H, W i m H →
      (J.stop i H ∧ Q (.ref D) H) ∨ (J.go i H ∧ ∃ Nx : Hp → Prop, (∀ H', Nx H' → ∃ m', m' < m ∧ W (i + 1) m' H') ∧ ∀ x H', J.yld i H x H' → g x (wipe σ ws) H' fun σ2 H2 => wipe σ2 ws = wipe σ ws ∧ tt σ2 H2 fun b H3 =>
        if b = true then te σ2 H3 fun y H4 => ∃ acc, H4 D = some (.lst acc) ∧ acc.length < sizeLine ∧ Nx (upd H4 D (.lst (acc ++ [y]))) else Nx H3) := by
  obtain ⟨I, i0, step, done⟩ := p
  obtain ⟨f1, f2, f3⟩ := E1.fresh hD
  have E2 := E1.comp (ws := ws) hD htm ht2 (u := .lst [])
  refine ⟨fun i m H' => m = ds.length - i ∧ i ≤ ds.length ∧ ∃ acc, I i acc ∧ Env G K (W.comp Γ σ H1 tm t2 D) (wipeC Γ ws) (wipe σ ws) H' ∧ ∃ av, H' D = some (.lst av) ∧ Rps K (fun p => ZZ W Γ σ p ∨ p = D) W.o H' acc av, ⟨ds.length, rfl, Nat.zero_le _, [], i0, E2, [], upd_same, rps_nil.mpr rfl⟩, fun i m H' hI => ?_⟩
  obtain ⟨rfl, hi, acc, hI, E', av, hL, hA⟩ := hI
  have tm' : ∀ b v, (b, v) ∈ tm → Rp K (ZZ (W.comp Γ σ H1 tm t2 D) (wipeC Γ ws) (wipe σ ws)) W.o H' b v := fun b v hb => E'.tmp b v (List.mem_append_left _ hb)
  have t2' : ∀ a u, (a, u) ∈ t2 → H' a = some u := fun a u ha => (E'.tm2 a u (List.mem_append_left _ ha)).1
  rcases Nat.lt_or_ge i ds.length with hlt | hge
  · refine .inr ⟨wk.go _ _ _ tm' t2' hlt, fun H2 => ∃ acc, I (i + 1) acc ∧ Env G K (W.comp Γ σ H1 tm t2 D) (wipeC Γ ws) (wipe σ ws) H2 ∧ ∃ av, H2 D = some (.lst av) ∧ Rps K (fun p => ZZ W Γ σ p ∨ p = D) W.o H2 acc av, fun H2 ⟨acc2, a1, a2, a3⟩ => ⟨_, by omega, rfl, hlt, acc2, a1, a2, a3⟩, fun x H2 hy => ?_⟩
    obtain ⟨s2, d, hd, rd⟩ := wk.yld _ _ _ _ _ tm' t2' E'.zz hy hlt
    have E3 := E'.same s2
    refine step i d acc hd hI (W.comp Γ σ H1 tm t2 D) (wipe σ ws) H2 x _ E3 rd fun Γ2 σ2 b2 hw E4 => ⟨hw.trans wipe_idem, b2 (W.comp Γ σ H1 tm t2 D) σ2 H2 _ E4 fun b H3 pb k3 E5 => ?_⟩
    have fin : ∀ {H4 : Hp}, Kp W.o H2 H4 → DOk G W H4 → Env G K (W.comp Γ σ H1 tm t2 D) (wipeC Γ ws) (wipe σ ws) H4 ∧ H4 D = some (.lst av) ∧ Rps K (fun p => ZZ W Γ σ p ∨ p = D) W.o H4 acc av := fun {H4} k4 d4 =>
      have kk := (Kp.same (o := W.o) s2).trans k4
      ⟨E'.step kk d4, kk _ _ f3 hL, hA.kp (fun st z => .inl (E1.zs st z)) kk⟩
    cases b with
    | true =>
      rw [if_pos rfl] at pb ⊢
      refine pb (W.comp Γ σ H1 tm t2 D) σ2 H3 _ E5 fun y v H4 py k4 E6 r6 => ?_
      obtain ⟨a1, a2, a3⟩ := fin (k3.trans k4) E6.dok
      have off : ∀ b u, (¬ (ZZ W Γ σ b ∨ b = D) ∨ isS W.o b) → ¬ (ZZ W Γ σ b ∨ b = D) → H4 b = some u → upd H4 D (.lst (av ++ [v])) b = some u := fun b u _ n hb => by
        rw [upd_ne fun e => n (.inr e)]
        exact hb
      refine ⟨av, a2, by rw [← rps_len hA]; exact py.1, acc ++ [y], py.2, (show Env G K (Wd.plus ⟨H1, ZZ W Γ σ, W.o, tm ++ W.T, t2 ++ W.T2, W.HX, W.ZX⟩ D) _ _ H4 from a1).put hD f3 no_own, av ++ [v], upd_same, rps_app (a3.off off) (rps_one ((r6.less fun p z => .inl z).off off))⟩
    | false =>
      rw [if_neg Bool.false_ne_true] at pb ⊢
      obtain ⟨a1, a2, a3⟩ := fin k3 E5.dok
      exact ⟨acc, pb, a1, av, a2, a3⟩
  · have e1 : i = ds.length := by omega
    subst e1
    exact .inl ⟨wk.stop _ _ _ tm' t2' hge, q acc H' (done acc hI) E'.kp (E1.plusLate hD E'.kp E'.dok (by rw [hL]; exact fun z => nomatch z)) ⟨av, hL, hA.mv fun b nb _ z => nb (zz_plus.mp z)⟩ t2'⟩
theorem lcN (h : bwI G K wi Γ fun ds => LcT G K g tt te ws Γ Post ds) : bwN G K (tLc wi g tt te ws) Γ Post := fun W σ H Q E q => by
  unfold tLc
  refine h W σ H _ E fun ds tm t2 J H1 p k1 E1 htm ht2 wk D hD => ?_
  obtain ⟨f1, f2, f3⟩ := E1.fresh hD
  exact lc_go E1 htm ht2 wk p hD fun acc H' pa k2 E' ow _ => q _ D H' pa (k1.trans k2) E' f1 f3 f2 ow
end
end BV
set_option Elab.async false
set_option linter.all false
set_option maxRecDepth 100000
set_option maxHeartbeats 4000000
/-! by value: operators and built-ins -/
namespace BV
open PySem PySem.Spec PyProof.Rows L2 G0
/-! data for == -/
mutual
def py : B → PyData
  | .non => .none
  | .bl b => .bool b
  | .int i => .int i
  | .str x => .str x
  | .tup ds => .tuple (pys ds)
  | .lst ds => .list (pys ds)
  | .dct _ _ => .dict []
  | .src => .dict []
  | .raw _ => .dict []
  | .xc _ _ _ _ => .dict []
  | .obj _ _ _ => .dict []
  | .dcT _ _ => .dict []
  | .mu _ => .dict []
def pys : List B → List PyData
  | [] => []
  | d :: ds => py d :: pys ds
end
def ty : B → String
  | .non => "NoneType" | .bl _ => "bool" | .int _ => "int" | .str _ => "str" | .tup _ => "tuple" | .lst _ => "list" | .dct _ _ => "dict" | _ => "?"
def isTy (x : B) (S : String) : Bool := ty x == S || (ty x == "bool" && S == "int")
section
variable {G : DK} {K : PySem.W.Frag} {W : Wd} {Γ : List Cell} {σ : L2.St} {H H' H1 : Hp} {Post P : B → Prop} {te ta tb : TE} {t tr : TA} {Z : AS} {o : Sr}
mutual
theorem Rp.dp : ∀ {d : B} {v : V}, Rp K Z o H d v → SeqAt.shaped (py d) = true ∨ (py d).canLay0 = true → Dp K H v (py d)
  | .non, v, h, _ => by rw [rp_non.mp h, py]; exact .non
  | .bl _, v, h, _ => by rw [rp_bl.mp h, py]; exact .bl _
  | .int _, v, h, _ => by rw [rp_int.mp h, py]; exact .int _
  | .str _, v, h, _ => by rw [rp_str.mp h, py]; exact .str _
  | .tup ds, v, h, s => by
    obtain ⟨p, vs, rfl, h1, h2⟩ := rp_tup.mp h
    rw [py] at s ⊢
    refine .tup h1.sq (Rps.dp h2 ?_)
    rcases s with s | s
    · exact SeqAt.canLay_of_shaped s
    · exact s
  | .lst ds, v, h, s => by
    obtain ⟨p, vs, rfl, _, h1, h2⟩ := rp_lst.mp h
    rw [py] at s ⊢
    refine .lst (SqL.of h1) (Rps.dp h2 ?_)
    rcases s with s | s
    · exact SeqAt.canLay_of_shaped s
    · exact s
  | .dct _ _, v, h, s => by rw [py] at s; exact s.elim (fun z => nomatch SeqAt.canLay_of_shaped z) fun z => nomatch z
  | .src, v, h, s => by rw [py] at s; exact s.elim (fun z => nomatch SeqAt.canLay_of_shaped z) fun z => nomatch z
  | .raw _, v, h, s => by rw [py] at s; exact s.elim (fun z => nomatch SeqAt.canLay_of_shaped z) fun z => nomatch z
  | .xc _ _ _ _, v, h, s => by rw [py] at s; exact s.elim (fun z => nomatch SeqAt.canLay_of_shaped z) fun z => nomatch z
  | .obj _ _ _, v, h, s => by rw [py] at s; exact s.elim (fun z => nomatch SeqAt.canLay_of_shaped z) fun z => nomatch z
  | .mu _, v, h, s => by rw [py] at s; exact s.elim (fun z => nomatch SeqAt.canLay_of_shaped z) fun z => nomatch z
  | .dcT _ _, v, h, s => by rw [py] at s; exact s.elim (fun z => nomatch SeqAt.canLay_of_shaped z) fun z => nomatch z
theorem Rps.dp : ∀ {ds : List B} {vs : List V}, Rps K Z o H ds vs → PyData.canLayAll0 (pys ds) = true → DpAll K H vs (pys ds)
  | [], vs, h, _ => by
    rw [rps_nil.mp h, pys]
    exact .nil
  | d :: ds, vs, h, s => by
    obtain ⟨v, r, rfl, h1, h2⟩ := rps_cons.mp h
    rw [pys] at s ⊢
    rw [PyData.canLayAll0, Bool.and_eq_true] at s
    exact .cons (Rp.dp h1 (.inr s.1)) (Rps.dp h2 s.2)
end
/-! ### ints -/
theorem i0 {g : Int → Int → V} {i j n : Int} (q : Post (.int n)) (e : g i j = .int n := by rfl) : bwR2 G K (rI0 g) (.int i) (.int j) Post := fun W Γ σ H v u Q E r1 r2 k => by
  rw [rp_int.mp r1, rp_int.mp r2]
  exact ⟨i, j, rfl, rfl, k _ _ H q Kp.refl E (rp_int.mpr e)⟩
theorem i0b {g : Int → Int → V} {i j : Int} {b : Bool} (q : Post (.bl b)) (e : g i j = .bl b := by rfl) : bwR2 G K (rI0 g) (.int i) (.int j) Post := fun W Γ σ H v u Q E r1 r2 k => by
  rw [rp_int.mp r1, rp_int.mp r2]
  exact ⟨i, j, rfl, rfl, k _ _ H q Kp.refl E (rp_bl.mpr e)⟩
theorem i1 {C : Int → Int → Prop} {g : Int → Int → V} {i j n : Int} (hc : C i j) (q : Post (.int n)) (e : g i j = .int n := by rfl) : bwR2 G K (rI C g) (.int i) (.int j) Post := fun W Γ σ H v u Q E r1 r2 k => by
  rw [rp_int.mp r1, rp_int.mp r2]
  exact ⟨i, j, rfl, rfl, hc, k _ _ H q Kp.refl E (rp_int.mpr e)⟩
/-! ### == -/
theorem eqS {x y : Str} (q : Post (.bl (decide (x = y)))) : bwR2 G K rEq (.str x) (.str y) Post := fun W Γ σ H v u Q E r1 r2 k => by
  rw [rp_str.mp r1, rp_str.mp r2]
  exact RD.eqS (k _ _ H q Kp.refl E (rp_bl.mpr rfl))
instance st_eqS {x y : Str} : BVSt (bwR2 G K rEq (.str x) (.str y) Post) (Post (.bl (decide (x = y)))) := ⟨fun h => eqS h⟩
theorem eqI {x y : Int} (q : Post (.bl (decide (x = y)))) : bwR2 G K rEq (.int x) (.int y) Post := fun W Γ σ H v u Q E r1 r2 k => by
  rw [rp_int.mp r1, rp_int.mp r2]
  exact RD.eqI (k _ _ H q Kp.refl E (rp_bl.mpr rfl))
instance st_eqI {x y : Int} : BVSt (bwR2 G K rEq (.int x) (.int y) Post) (Post (.bl (decide (x = y)))) := ⟨fun h => eqI h⟩
theorem neS {x y : Str} (q : Post (.bl (!decide (x = y)))) : bwR2 G K rNe (.str x) (.str y) Post := fun W Γ σ H v u Q E r1 r2 k => by
  rw [rp_str.mp r1, rp_str.mp r2]
  exact RD.neS (k _ _ H q Kp.refl E (rp_bl.mpr rfl))
instance st_neS {x y : Str} : BVSt (bwR2 G K rNe (.str x) (.str y) Post) (Post (.bl (!decide (x = y)))) := ⟨fun h => neS h⟩
theorem neI {x y : Int} (q : Post (.bl (!decide (x = y)))) : bwR2 G K rNe (.int x) (.int y) Post := fun W Γ σ H v u Q E r1 r2 k => by
  rw [rp_int.mp r1, rp_int.mp r2]
  exact RD.neI (k _ _ H q Kp.refl E (rp_bl.mpr rfl))
instance st_neI {x y : Int} : BVSt (bwR2 G K rNe (.int x) (.int y) Post) (Post (.bl (!decide (x = y)))) := ⟨fun h => neI h⟩
theorem neB {x y : Bool} (q : Post (.bl (!decide (x = y)))) : bwR2 G K rNe (.bl x) (.bl y) Post := fun W Γ σ H v u Q E r1 r2 k => by
  rw [rp_bl.mp r1, rp_bl.mp r2]
  have e : decide (V.bl x = V.bl y) = decide (x = y) := decide_eq_decide.mpr ⟨fun z => V.bl.inj z, fun z => congrArg V.bl z⟩
  refine ⟨rfl, ?_⟩
  rw [e]
  exact k _ _ H q Kp.refl E (rp_bl.mpr rfl)
instance st_neB {x y : Bool} : BVSt (bwR2 G K rNe (.bl x) (.bl y) Post) (Post (.bl (!decide (x = y)))) := ⟨fun h => neB h⟩
def isNon : B → Bool
  | .non => true
  | _ => false
def isPlainB : B → Bool
  | .src => false | .raw _ => false | .xc _ _ _ _ => false | .obj _ _ _ => false | .dcT _ _ => false | .mu _ => false
  | _ => true
theorem isN_rp {x : B} {v : V} (h : Rp K Z o H x v) (hx : isPlainB x = true) : decide (v = .non) = isNon x := by
  cases x with
  | non => rw [rp_non.mp h]; rfl
  | bl _ => rw [rp_bl.mp h]; rfl
  | int _ => rw [rp_int.mp h]; rfl
  | str _ => rw [rp_str.mp h]; rfl
  | tup _ => obtain ⟨p, vs, rfl, _⟩ := rp_tup.mp h; rfl
  | lst _ => obtain ⟨p, vs, rfl, _⟩ := rp_lst.mp h; rfl
  | dct _ _ => obtain ⟨p, vs, rfl, _⟩ := rp_dct.mp h; rfl
  | src => cases hx
  | raw _ => cases hx
  | xc _ _ _ _ => cases hx
  | obj _ _ _ => cases hx
  | dcT _ _ => cases hx
  | mu _ => cases hx
theorem isN {x : B} (hx : isPlainB x = true) (q : Post (.bl (isNon x))) : bwR2 G K rIsN x .non Post := fun W Γ σ H v u Q E r1 r2 k => by
  refine ⟨rp_non.mp r2, ?_⟩
  rw [isN_rp r1 hx]
  exact k _ _ H q Kp.refl E (rp_bl.mpr rfl)
theorem notN {x : B} (hx : isPlainB x = true) (q : Post (.bl (!isNon x))) : bwR2 G K rNotN x .non Post := fun W Γ σ H v u Q E r1 r2 k => by
  refine ⟨rp_non.mp r2, ?_⟩
  rw [isN_rp r1 hx]
  exact k _ _ H q Kp.refl E (rp_bl.mpr rfl)
/-! ### items -/
theorem rps_atI {ds : List B} {vs : List V} {i : Int} {d : B} (h : Rps K Z o H ds vs) (e : atI ds i = some d) : ∃ v, atI vs i = some v ∧ Rp K Z o H d v := by
  unfold atI at e ⊢
  rw [rps_len h] at e
  cases q : ixN vs.length i with
  | none => rw [q] at e; cases e
  | some j =>
    rw [q] at e
    exact rps_at h e
theorem ixT {ds : List B} {i : Int} {d : B} (h : atI ds i = some d) (q : Post d) : bwR2 G K (rIxT K) (.tup ds) (.int i) Post := fun W Γ σ H v u Q E r1 r2 k => by
  obtain ⟨p, vs, rfl, h1, h2⟩ := rp_tup.mp r1
  rw [rp_int.mp r2]
  obtain ⟨w, a1, a2⟩ := rps_atI h2 h
  exact RD.ixT h1.sq a1 (k _ _ H q Kp.refl E a2)
theorem ixL {ds : List B} {i : Int} {d : B} (h : atI ds i = some d) (q : Post d) : bwR2 G K (rIxL K) (.lst ds) (.int i) Post := fun W Γ σ H v u Q E r1 r2 k => by
  obtain ⟨p, vs, rfl, hz, h1, h2⟩ := rp_lst.mp r1
  rw [rp_int.mp r2]
  obtain ⟨w, a1, a2⟩ := rps_atI h2 h
  exact RD.ixL (SqL.of h1) a1 (k _ _ H q Kp.refl E a2)
/-! ### cuts -/
def cutB {α : Type} (xs : List α) (lo hi : Option Int) : List α := (xs.drop (HT.sIx xs.length 0 lo)).take (HT.sIx xs.length xs.length hi - HT.sIx xs.length 0 lo)
theorem rps_cut {ds : List B} {vs : List V} {lo hi : Option Int} (h : Rps K Z o H ds vs) : Rps K Z o H (cutB ds lo hi) (cutV vs lo hi) := by
  unfold cutB cutV
  rw [rps_len h]
  exact rps_take _ (rps_drop _ h)
def bwO (G : DK) (K : PySem.W.Frag) (to : TO) (Γ : List Cell) (Post : Option Int → Prop) : Prop := ∀ (W : Wd) (σ : L2.St) (H : Hp) (Q : Option Int → Hp → Prop), Env G K W Γ σ H → (∀ (b : Option Int) (H' : Hp), Post b → Kp W.o H H' → Env G K W Γ σ H' → Q b H') → to σ H Q
def bwSl (G : DK) (K : PySem.W.Frag) (r : V → Option Int → Option Int → Hp → VK → Prop) (x : B) (lo hi : Option Int) (Post : B → Prop) : Prop := ∀ (W : Wd) (Γ : List Cell) (σ : L2.St) (H : Hp) (v : V) (Q : VK), Env G K W Γ σ H → Rp K (ZZ W Γ σ) W.o H x v → (∀ (b : B) (z : V) (H' : Hp), Post b → Kp W.o H H' → Env G K W Γ σ H' → Rp K (ZZ W Γ σ) W.o H' b z → Q z H') → r v lo hi H Q
theorem noP {PO : Option Int → Prop} (q : PO none) : bwO G K tNoPart Γ PO := fun W σ H Q E k => RD.noPart (k none H q Kp.refl E)
instance st_noP {PO : Option Int → Prop} : BVSt (bwO G K tNoPart Γ PO) (PO none) := ⟨fun h => noP h⟩
theorem part {PO : Option Int → Prop} (h : bwE G K te Γ fun b => ∃ i, b = .int i ∧ PO (some i)) : bwO G K (tPart te) Γ PO := fun W σ H Q E k =>
  RD.part (h W σ H _ E fun b v H1 p k1 E1 r1 => by
    obtain ⟨i, rfl, p⟩ := p
    exact ⟨i, rp_int.mp r1, k _ H1 p k1 E1⟩)
instance st_part {PO : Option Int → Prop} : BVSt (bwO G K (tPart te) Γ PO) (bwE G K te Γ fun b => ∃ i, b = .int i ∧ PO (some i)) := ⟨fun h => part h⟩
theorem sl {r : V → Option Int → Option Int → Hp → VK → Prop} {tl th : TO} (h : bwE G K te Γ fun x => bwO G K tl Γ fun lo => bwO G K th Γ fun hi => bwSl G K r x lo hi Post) : bwE G K (tSl r te tl th) Γ Post := fun W σ H Q E k =>
  RD.sl (h W σ H _ E fun x v H1 p1 k1 E1 r1 => p1 W σ H1 _ E1 fun lo H2 p2 k2 E2 => p2 W σ H2 _ E2 fun hi H3 p3 k3 E3 => p3 W Γ σ H3 v Q E3 ((r1.kp E1.zs k2).kp E2.zs k3) fun b z H4 pb k4 => k b z H4 pb (k1.trans (k2.trans (k3.trans k4))))
instance st_sl {r : V → Option Int → Option Int → Hp → VK → Prop} {tl th : TO} : BVSt (bwE G K (tSl r te tl th) Γ Post) (bwE G K te Γ fun x => bwO G K tl Γ fun lo => bwO G K th Γ fun hi => bwSl G K r x lo hi Post) := ⟨fun h => sl h⟩
theorem slT {ds : List B} {lo hi : Option Int} (q : Post (.tup (cutB ds lo hi))) : bwSl G K (rSlA K) (.tup ds) lo hi Post := fun W Γ σ H v Q E r1 k => by
  obtain ⟨p, vs, rfl, h1, h2⟩ := rp_tup.mp r1
  refine ⟨p, vs, rfl, h1.sq, fun ⟨e1, e2⟩ => k _ _ H q Kp.refl E (rp_tup.mpr ⟨p, vs, rfl, h1, ?_⟩), fun _ np hn => k _ _ _ q (Kp.refl.nw hn) (E.nw hn) (rp_tup.mpr ⟨np, _, rfl, .inl ⟨upd_same, (E.fresh hn).2.1⟩, (rps_cut h2).kp E.zs (Kp.refl.nw hn)⟩)⟩
  have hl := rps_len h2
  unfold cutB
  rw [hl, e1, e2, List.drop_zero, Nat.sub_zero, List.take_of_length_le (by omega)]
  exact h2
instance st_slT {ds : List B} {lo hi : Option Int} : BVSt (bwSl G K (rSlA K) (.tup ds) lo hi Post) (Post (.tup (cutB ds lo hi))) := ⟨fun h => slT h⟩
/-! ### joined -/
theorem catL {xs ys : List B} (hl : xs.length + ys.length ≤ sizeLine) (q : Post (.lst (xs ++ ys))) : bwR2 G K rCat (.lst xs) (.lst ys) Post := fun W Γ σ H v u Q E r1 r2 k => by
  obtain ⟨p, vs, rfl, hz, h1, h2⟩ := rp_lst.mp r1
  obtain ⟨p', vs', rfl, hz', h1', h2'⟩ := rp_lst.mp r2
  exact ⟨p, p', vs, vs', rfl, rfl, h1, h1', by rw [← rps_len h2, ← rps_len h2']; exact hl, fun np hn => k _ _ _ q (Kp.refl.nw hn) (E.nw hn) (rp_lst.mpr ⟨np, _, rfl, (E.fresh hn).2.1, upd_same, (rps_app h2 h2').kp E.zs (Kp.refl.nw hn)⟩)⟩
theorem catT {xs ys : List B} (hl : xs.length + ys.length ≤ sizeLine) (q : Post (.tup (xs ++ ys))) : bwR2 G K (rCatA K) (.tup xs) (.tup ys) Post := fun W Γ σ H v u Q E r1 r2 k => by
  obtain ⟨p, vs, rfl, h1, h2⟩ := rp_tup.mp r1
  obtain ⟨p', vs', rfl, h1', h2'⟩ := rp_tup.mp r2
  refine ⟨p, p', vs, vs', rfl, rfl, h1.sq, h1'.sq, by rw [← rps_len h2, ← rps_len h2']; exact hl, fun e => ?_, fun _ e => ?_, fun _ _ np hn => k _ _ _ q (Kp.refl.nw hn) (E.nw hn) (rp_tup.mpr ⟨np, _, rfl, .inl ⟨upd_same, (E.fresh hn).2.1⟩, (rps_app h2 h2').kp E.zs (Kp.refl.nw hn)⟩)⟩
  · subst e
    have : xs = [] := List.eq_nil_of_length_eq_zero (rps_len h2)
    subst this
    exact k _ _ H q Kp.refl E r2
  · subst e
    have : ys = [] := List.eq_nil_of_length_eq_zero (rps_len h2')
    subst this
    rw [List.append_nil] at q
    exact k _ _ H q Kp.refl E r1
/-! ### built-ins -/
theorem lenL {ds : List B} (q : Post (.int (ds.length : Nat))) : bwRA G K (SF.rLenQ K) [.lst ds] Post := fun W Γ σ H vs Q E r k => by
  obtain ⟨v, r, rfl, a1, a2⟩ := rps_cons.mp r
  obtain rfl := rps_nil.mp a2
  obtain ⟨p, vs, rfl, hz, h1, h2⟩ := rp_lst.mp a1
  refine SF.lenQl (SqL.of h1) (k _ _ H q Kp.refl E (rp_int.mpr ?_))
  rw [rps_len h2]
instance st_lenL {ds : List B} : BVSt (bwRA G K (SF.rLenQ K) [.lst ds] Post) (Post (.int (ds.length : Nat))) := ⟨fun h => lenL h⟩
theorem lenT {ds : List B} (q : Post (.int (ds.length : Nat))) : bwRA G K (SF.rLenQ K) [.tup ds] Post := fun W Γ σ H vs Q E r k => by
  obtain ⟨v, r, rfl, a1, a2⟩ := rps_cons.mp r
  obtain rfl := rps_nil.mp a2
  obtain ⟨p, vs, rfl, h1, h2⟩ := rp_tup.mp a1
  refine SF.lenQt h1.sq (k _ _ H q Kp.refl E (rp_int.mpr ?_))
  rw [rps_len h2]
instance st_lenT {ds : List B} : BVSt (bwRA G K (SF.rLenQ K) [.tup ds] Post) (Post (.int (ds.length : Nat))) := ⟨fun h => lenT h⟩
theorem lenS {z : Str} (hz : z.length ≤ 1000000) (q : Post (.int (z.length : Nat))) : bwRA G K SF.rLenT [.str z] Post := fun W Γ σ H vs Q E r k => by
  obtain ⟨v, r, rfl, a1, a2⟩ := rps_cons.mp r
  obtain rfl := rps_nil.mp a2
  rw [rp_str.mp a1]
  exact SF.lenTt hz (k _ _ H q Kp.refl E (rp_int.mpr rfl))
/-- len of a name's own list -/
theorem lenO {i : Nat} {ds : List B} (h : Γ[i]? = some (.ow (.lst ds))) (q : Post (.int (ds.length : Nat))) : bwE G K (tCB (SF.rLenQ K) (tCons (tVar i) tNil)) Γ Post := fun W σ H Q E k => by
  obtain ⟨p, h1, h2, h3, vs, h4, h5⟩ := E.ow i _ h
  refine RD.cb (RD.cons (RD.var h1 (RD.nil (SF.lenQl (SqL.of h4) (k _ _ H q Kp.refl E (rp_int.mpr ?_))))))
  rw [rps_len h5]
theorem ty_rp {x : B} {v : V} (h : Rp K Z o H x v) (hx : isPlainB x = true) : TyX K H v (.type (ty x)) := by
  cases x with
  | non => rw [rp_non.mp h]; exact .base .non
  | bl b => rw [rp_bl.mp h]; exact .base (.bl b)
  | int i => rw [rp_int.mp h]; exact .base (.int i)
  | str y => rw [rp_str.mp h]; exact .base (.str y)
  | tup _ => obtain ⟨p, vs, rfl, h1, _⟩ := rp_tup.mp h; exact SF.ty_t h1.sq
  | lst _ => obtain ⟨p, vs, rfl, _, h1, _⟩ := rp_lst.mp h; exact .base (.lst h1)
  | dct _ _ =>
    obtain ⟨p, vs, rfl, _, h1, _⟩ := rp_dct.mp h
    rcases h1 with h1 | ⟨_, od, h1⟩
    · exact .base (.dK h1)
    · exact .fDict h1
  | src => cases hx
  | raw _ => cases hx
  | xc _ _ _ _ => cases hx
  | obj _ _ _ => cases hx
  | dcT _ _ => cases hx
  | mu _ => cases hx
theorem kit_all : (["NoneType", "bool", "int", "str", "tuple", "list", "dict"].all fun T => ["bool", "int", "str", "tuple", "list", "dict"].all fun S => kitB T S == some (T == S || (T == "bool" && S == "int"))) = true := by decide +kernel
theorem ty_mem {x : B} (hx : isPlainB x = true) : ty x ∈ ["NoneType", "bool", "int", "str", "tuple", "list", "dict"] := by
  cases x <;> first
    | (cases hx; done)
    | (simp [ty])
theorem kit_is {x : B} {S : String} (hx : isPlainB x = true) (hS : S ∈ ["bool", "int", "str", "tuple", "list", "dict"]) : PySem.W.kitOne K (.type (ty x)) (.type S) = some (isTy x S) := by
  refine kit_ty ?_
  have := List.all_eq_true.mp (List.all_eq_true.mp kit_all _ (ty_mem hx)) _ hS
  exact eq_of_beq this
theorem isi {x : B} {S : String} (hS : S ∈ ["bool", "int", "str", "tuple", "list", "dict"]) (hx : isPlainB x = true) (q : Post (.bl (isTy x S))) : bwRA G K (rIsi K) [x, .raw (.ty S)] Post := fun W Γ σ H vs Q E r k => by
  obtain ⟨v, r, rfl, a1, a2⟩ := rps_cons.mp r
  obtain ⟨v2, r2, rfl, b1, b2⟩ := rps_cons.mp a2
  obtain rfl := rps_nil.mp b2
  rw [rp_raw.mp b1]
  exact SF.isi_go (ty_rp a1 hx) (kit_is hx hS) (k _ _ H q Kp.refl E (rp_bl.mpr rfl))
theorem rps_bls {bs : List Bool} : ∀ {vs : List V}, Rps K Z o H (bs.map B.bl) vs → vs = bs.map V.bl := by
  induction bs with
  | nil => intro vs h; exact rps_nil.mp h
  | cons b bs ih =>
    intro vs h
    obtain ⟨v, r, rfl, a1, a2⟩ := rps_cons.mp h
    rw [rp_bl.mp a1, ih a2]
    rfl
theorem rps_strs {ss : List Str} : ∀ {vs : List V}, Rps K Z o H (ss.map B.str) vs → vs = ss.map V.str := by
  induction ss with
  | nil => intro vs h; exact rps_nil.mp h
  | cons b bs ih =>
    intro vs h
    obtain ⟨v, r, rfl, a1, a2⟩ := rps_cons.mp h
    rw [rp_str.mp a1, ih a2]
    rfl
theorem strs_rps : ∀ {ss : List Str}, Rps K Z o H (ss.map B.str) (ss.map V.str)
  | [] => rps_nil.mpr rfl
  | s :: ss => rps_cons.mpr ⟨.str s, ss.map V.str, rfl, rp_str.mpr rfl, strs_rps⟩
theorem all_ {bs : List Bool} (q : Post (.bl (bs.all id))) : bwRA G K (rAll K) [.lst (bs.map B.bl)] Post := fun W Γ σ H vs Q E r k => by
  obtain ⟨v, r, rfl, a1, a2⟩ := rps_cons.mp r
  obtain rfl := rps_nil.mp a2
  obtain ⟨p, vs, rfl, hz, h1, h2⟩ := rp_lst.mp a1
  exact ⟨p, bs, rfl, SqL.of (by rw [h1, rps_bls h2]), k _ _ H q Kp.refl E (rp_bl.mpr rfl)⟩
theorem int1 {i : Int} (q : Post (.int i)) : bwRA G K (fun xs H Q => (∃ i, xs = [.int i] ∧ Q (.int i) H) ∨ ∃ k, xs = [.bl k] ∧ Q (.int (if k then 1 else 0)) H) [.int i] Post := fun W Γ σ H vs Q E r k => by
  obtain ⟨v, r, rfl, a1, a2⟩ := rps_cons.mp r
  obtain rfl := rps_nil.mp a2
  rw [rp_int.mp a1]
  exact .inl ⟨i, rfl, k _ _ H q Kp.refl E (rp_int.mpr rfl)⟩
instance st_int1 {i : Int} : BVSt (bwRA G K (fun xs H Q => (∃ i, xs = [.int i] ∧ Q (.int i) H) ∨ ∃ k, xs = [.bl k] ∧ Q (.int (if k then 1 else 0)) H) [.int i] Post) (Post (.int i)) := ⟨fun h => int1 h⟩
theorem min2 {i j : Int} (q : Post (.int (if j < i then j else i))) : bwRA G K (fun xs H Q => ∃ i j, xs = [.int i, .int j] ∧ Q (.int (if j < i then j else i)) H) [.int i, .int j] Post := fun W Γ σ H vs Q E r k => by
  obtain ⟨v, r, rfl, a1, a2⟩ := rps_cons.mp r
  obtain ⟨v2, r2, rfl, b1, b2⟩ := rps_cons.mp a2
  obtain rfl := rps_nil.mp b2
  rw [rp_int.mp a1, rp_int.mp b1]
  exact ⟨i, j, rfl, k _ _ H q Kp.refl E (rp_int.mpr rfl)⟩
instance st_min2 {i j : Int} : BVSt (bwRA G K (fun xs H Q => ∃ i j, xs = [.int i, .int j] ∧ Q (.int (if j < i then j else i)) H) [.int i, .int j] Post) (Post (.int (if j < i then j else i))) := ⟨fun h => min2 h⟩
theorem listOfL {ds : List B} (q : Post (.lst ds)) : bwRA G K (fun xs H Q => ∃ p ys, xs = [.ref p] ∧ (SqL K H p ys ∨ SqT K H p ys) ∧ ∀ l, H l = none → Q (.ref l) (upd H l (.lst ys))) [.lst ds] Post := fun W Γ σ H vs Q E r k => by
  obtain ⟨v, r, rfl, a1, a2⟩ := rps_cons.mp r
  obtain rfl := rps_nil.mp a2
  obtain ⟨p, vs, rfl, hz, h1, h2⟩ := rp_lst.mp a1
  exact ⟨p, vs, rfl, .inl (SqL.of h1), fun np hn => k _ _ _ q (Kp.refl.nw hn) (E.nw hn) (rp_lst.mpr ⟨np, _, rfl, (E.fresh hn).2.1, upd_same, h2.kp E.zs (Kp.refl.nw hn)⟩)⟩
instance st_listOfL {ds : List B} : BVSt (bwRA G K (fun xs H Q => ∃ p ys, xs = [.ref p] ∧ (SqL K H p ys ∨ SqT K H p ys) ∧ ∀ l, H l = none → Q (.ref l) (upd H l (.lst ys))) [.lst ds] Post) (Post (.lst ds)) := ⟨fun h => listOfL h⟩
theorem listOfT {ds : List B} (q : Post (.lst ds)) : bwRA G K (fun xs H Q => ∃ p ys, xs = [.ref p] ∧ (SqL K H p ys ∨ SqT K H p ys) ∧ ∀ l, H l = none → Q (.ref l) (upd H l (.lst ys))) [.tup ds] Post := fun W Γ σ H vs Q E r k => by
  obtain ⟨v, r, rfl, a1, a2⟩ := rps_cons.mp r
  obtain rfl := rps_nil.mp a2
  obtain ⟨p, vs, rfl, h1, h2⟩ := rp_tup.mp a1
  exact ⟨p, vs, rfl, .inr h1.sq, fun np hn => k _ _ _ q (Kp.refl.nw hn) (E.nw hn) (rp_lst.mpr ⟨np, _, rfl, (E.fresh hn).2.1, upd_same, h2.kp E.zs (Kp.refl.nw hn)⟩)⟩
instance st_listOfT {ds : List B} : BVSt (bwRA G K (fun xs H Q => ∃ p ys, xs = [.ref p] ∧ (SqL K H p ys ∨ SqT K H p ys) ∧ ∀ l, H l = none → Q (.ref l) (upd H l (.lst ys))) [.tup ds] Post) (Post (.lst ds)) := ⟨fun h => listOfT h⟩
theorem tupOfL {ds : List B} (q : Post (.tup ds)) : bwR1 G K (kTup K) (.lst ds) Post := fun W Γ σ H v Q E r k => by
  obtain ⟨p, vs, rfl, hz, h1, h2⟩ := rp_lst.mp r
  exact .inl ⟨p, vs, rfl, SqL.of h1, fun np hn => k _ _ _ q (Kp.refl.nw hn) (E.nw hn) (rp_tup.mpr ⟨np, _, rfl, .inl ⟨upd_same, (E.fresh hn).2.1⟩, h2.kp E.zs (Kp.refl.nw hn)⟩)⟩
instance st_tupOfL {ds : List B} : BVSt (bwR1 G K (kTup K) (.lst ds) Post) (Post (.tup ds)) := ⟨fun h => tupOfL h⟩
theorem tupOfT {ds : List B} (q : Post (.tup ds)) : bwR1 G K (kTup K) (.tup ds) Post := fun W Γ σ H v Q E r k => by
  obtain ⟨p, vs, rfl, h1, h2⟩ := rp_tup.mp r
  exact .inr ⟨p, vs, rfl, h1.sq, k _ _ _ q Kp.refl E r⟩
instance st_tupOfT {ds : List B} : BVSt (bwR1 G K (kTup K) (.tup ds) Post) (Post (.tup ds)) := ⟨fun h => tupOfT h⟩
/-! ### texts -/
theorem strJoin (h1 : bwE G K ta Γ fun x => ∃ a : Str, x = .str a ∧ bwE G K tb Γ fun y => ∃ ss : List Str, y = .lst (ss.map B.str) ∧ (ss.map (·.length)).sum + ss.length * a.length ≤ 16777216 ∧ Post (.str (Txt.join a ss))) :
    bwE G K (tM1 (fun x xs H Q => ∃ a p, ∃ ys : List Str, x = .str a ∧ xs = [.ref p] ∧ (SqL K H p (ys.map V.str) ∨ SqT K H p (ys.map V.str)) ∧ (ys.map (·.length)).sum + ys.length * a.length ≤ 16777216 ∧ Q (.str (Txt.join a ys)) H) ta tb) Γ Post := fun W σ H Q E k => by
  refine h1 W σ H _ E fun x v H1 p1 k1 E1 r1 => ?_
  obtain ⟨a, rfl, p1⟩ := p1
  refine ⟨⟨a, rp_str.mp r1⟩, p1 W σ H1 _ E1 fun y u H2 p2 k2 E2 r2 => ?_⟩
  obtain ⟨ss, rfl, hl, q⟩ := p2
  obtain ⟨p, vs, rfl, hz, e1, e2⟩ := rp_lst.mp r2
  exact ⟨a, p, ss, rp_str.mp r1, rfl, .inl (SqL.of (by rw [e1, rps_strs e2])), hl, k _ _ H2 q (k1.trans k2) E2 (rp_str.mpr rfl)⟩
end
end BV
set_option Elab.async false
set_option linter.all false
set_option maxRecDepth 100000
set_option maxHeartbeats 4000000
/-! by value: more of comprehensions, texts, tables of texts; where a law starts -/
namespace BV
open PySem PySem.Spec PyProof.Rows L2 G0
theorem exBl {b : Bool} {F : Bool → Prop} (q : F b) : ∃ c, B.bl b = .bl c ∧ F c := ⟨b, rfl, q⟩
instance st_exBl {b : Bool} {F : Bool → Prop} : BVSt (∃ c, B.bl b = .bl c ∧ F c) (F b) := ⟨fun h => exBl h⟩
theorem exInt {b : Int} {F : Int → Prop} (q : F b) : ∃ c, B.int b = .int c ∧ F c := ⟨b, rfl, q⟩
instance st_exInt {b : Int} {F : Int → Prop} : BVSt (∃ c, B.int b = .int c ∧ F c) (F b) := ⟨fun h => exInt h⟩
theorem exLst {b : List B} {F : List B → Prop} (q : F b) : ∃ c, B.lst b = .lst c ∧ F c := ⟨b, rfl, q⟩
instance st_exLst {b : List B} {F : List B → Prop} : BVSt (∃ c, B.lst b = .lst c ∧ F c) (F b) := ⟨fun h => exLst h⟩
theorem exTup {b : List B} {F : List B → Prop} (q : F b) : ∃ c, B.tup b = .tup c ∧ F c := ⟨b, rfl, q⟩
instance st_exTup {b : List B} {F : List B → Prop} : BVSt (∃ c, B.tup b = .tup c ∧ F c) (F b) := ⟨fun h => exTup h⟩
theorem exStr {b : Str} {F : Str → Prop} (q : F b) : ∃ c, B.str b = .str c ∧ F c := ⟨b, rfl, q⟩
instance st_exStr {b : Str} {F : Str → Prop} : BVSt (∃ c, B.str b = .str c ∧ F c) (F b) := ⟨fun h => exStr h⟩
theorem exZip {x y : List B} {F : List B → List B → Prop} (q : F x y) : ∃ xs ys, [B.tup x, B.tup y] = [.tup xs, .tup ys] ∧ F xs ys := ⟨x, y, rfl, q⟩
instance st_exZip {x y : List B} {F : List B → List B → Prop} : BVSt (∃ xs ys, [B.tup x, B.tup y] = [.tup xs, .tup ys] ∧ F xs ys) (F x y) := ⟨fun h => exZip h⟩
theorem cut1 {α : Type} {x : α} {r : List α} : cutB (x :: r) (some 1) none = r := by
  unfold cutB
  have e1 : HT.sIx (x :: r).length 0 (some 1) = 1 := by
    have e2 : HT.sIx (x :: r).length 0 (some 1) = min 1 (x :: r).length := HT.sIx_nat _ _ 1
    rw [e2, List.length_cons]
    omega
  rw [HT.sIx_none, e1]
  show (r.take _) = r
  rw [List.length_cons]
  exact List.take_of_length_le (by omega)
theorem at_n {α : Type} {xs : List α} {n : Nat} {x : α} (h : xs[n]? = some x) : atI xs (n : Int) = some x := atI_nat h
section
variable {G : DK} {K : PySem.W.Frag} {W : Wd} {Γ : List Cell} {σ : L2.St} {H H' H1 : Hp} {Post P : B → Prop} {te ta tb : TE} {t tr : TA} {Z : AS} {o : Sr} {e : En} {wi : TI} {g : TG} {ws : List Nat}
/-- each item gives what Rl lets -/
theorem lcRel (h : bwI G K wi Γ fun ds => ds.length ≤ sizeLine ∧ ∃ Rl : B → B → Prop, (∀ (k : Nat) (d : B), ds[k]? = some d → bwGv G K ws g d (wipeC Γ ws) fun g' => bwE G K te g' fun y => Rl d y) ∧ ∀ ys, ys.length = ds.length → (∀ (i : Nat) (d y : B), ds[i]? = some d → ys[i]? = some y → Rl d y) → Post (.lst ys)) : bwN G K (tLc wi g tYes te ws) Γ Post := by
  refine lcN fun W σ H R E q => h W σ H R E fun ds tm t2 J H' p => q ds tm t2 J H' ?_
  obtain ⟨hz, Rl, hs, hd⟩ := p
  refine ⟨fun k acc => k ≤ ds.length ∧ acc.length = k ∧ ∀ (i : Nat) (d y : B), ds[i]? = some d → acc[i]? = some y → Rl d y, ⟨Nat.zero_le _, rfl, fun i d y _ h => by simp at h⟩, fun k d acc hk ⟨h1, h2, h3⟩ => ?_, fun acc ⟨h1, h2, h3⟩ => hd acc h2 h3⟩
  have hlt := (List.getElem?_eq_some_iff.mp hk).1
  refine fun W σ H v QS E r q => hs k d hk W σ H v QS E r fun Γ' σ' p => q Γ' σ' (yes ?_)
  rw [if_pos rfl]
  refine p.mono fun y hy => ⟨by omega, hlt, by rw [List.length_append, h2]; rfl, fun i d' y' a b => ?_⟩
  rcases Nat.lt_or_ge i acc.length with hi | hi
  · rw [List.getElem?_append_left hi] at b
    exact h3 i d' y' a b
  · rw [List.getElem?_append_right hi] at b
    have : i = k := by
      have := (List.getElem?_eq_some_iff.mp b).1
      have e : [y].length = 1 := rfl
      omega
    subst this
    rw [hk] at a
    rw [h2, Nat.sub_self] at b
    obtain rfl : d = d' := Option.some.inj a
    obtain rfl : y = y' := by simpa using b
    exact hy
/-- .. its own -/
theorem lcMap (f : B → B) (h : bwI G K wi Γ fun ds => ds.length ≤ sizeLine ∧ (∀ (k : Nat) (d : B), ds[k]? = some d → bwGv G K ws g d (wipeC Γ ws) fun g' => bwE G K te g' fun y => y = f d) ∧ Post (.lst (ds.map f))) : bwN G K (tLc wi g tYes te ws) Γ Post := by
  refine lcRel fun W σ H R E q => h W σ H R E fun ds tm t2 J H' p => q ds tm t2 J H' ⟨p.1, fun d y => y = f d, p.2.1, fun ys hl hy => ?_⟩
  have : ys = ds.map f := by
    refine List.ext_getElem? fun i => ?_
    rw [List.getElem?_map]
    rcases Nat.lt_or_ge i ds.length with hi | hi
    · rw [List.getElem?_eq_getElem hi, List.getElem?_eq_getElem (by omega)]
      exact congrArg some (hy i _ _ (List.getElem?_eq_getElem hi) (List.getElem?_eq_getElem (by omega)))
    · rw [List.getElem?_eq_none hi, List.getElem?_eq_none (by omega)]
      rfl
  rw [this]
  exact p.2.2
theorem bm0S {f : Str → Bool} (h : bwE G K ta Γ fun x => ∃ z, x = .str z ∧ Post (.bl (f z))) : bwE G K (tBM0 K "str" (fun x xs H Q => ∃ a, x = .str a ∧ xs = [] ∧ True ∧ Q (.bl (f a)) H) ta) Γ Post := fun W σ H Q E k =>
  RD.bm0 (h W σ H _ E fun x v H1 p k1 E1 r1 => by
    obtain ⟨z, rfl, p⟩ := p
    rw [rp_str.mp r1]
    exact ⟨rfl, z, rfl, rfl, trivial, k _ _ H1 p k1 E1 (rp_bl.mpr rfl)⟩)
instance st_bm0S {f : Str → Bool} : BVSt (bwE G K (tBM0 K "str" (fun x xs H Q => ∃ a, x = .str a ∧ xs = [] ∧ True ∧ Q (.bl (f a)) H) ta) Γ Post) (bwE G K ta Γ fun x => ∃ z, x = .str z ∧ Post (.bl (f z))) := ⟨fun h => bm0S h⟩
/-! ### x in a tuple of data -/
/-! ### a name's own dict -/
theorem dNew (q : Post (.dct [] [])) : bwN G K tDNewK Γ Post := fun W σ H Q E k => fun p hp => by
  obtain ⟨f1, f2, f3⟩ := E.fresh hp
  exact k _ p _ q (Kp.refl.nw hp) (E.plus hp) f1 f3 f2 ⟨[], upd_same, rfl, rps_nil.mpr rfl⟩
end
/-! ### where a law starts: the state of the draws is there -/
end BV
set_option Elab.async false
set_option linter.all false
set_option maxRecDepth 100000
set_option maxHeartbeats 4000000
/-! rules of our own: list(d.values()) -/
namespace G7
open PySem PySem.Spec PyProof.Rows L2
section
variable {X : Cx} {o : Expr} {p pos apos mpos : Pos} {td : TE}
/-- list(d.values()) -/
def tListV (td : TE) : TE := fun σ H Q => td σ H fun x H1 => ∃ (a : Addr) (kvs : List (Key × V)), x = V.ref a ∧ H1 a = some (.dK kvs) ∧ ∀ q, H1 q = none → Q (.ref q) (upd H1 q (.lst (kvs.map (·.2))))
end
end G7
set_option Elab.async false
set_option linter.all false
set_option maxRecDepth 100000
set_option maxHeartbeats 4000000
/-! by value: dicts -/
namespace RD
theorem ifDT {A B : Prop} {b : Bool} (h : b = true) (q : A) : if b = true then A else B := by rw [if_pos h]; exact q
theorem ifDF {A B : Prop} {b : Bool} (h : b = false) (q : B) : if b = true then A else B := by rw [h, if_neg Bool.false_ne_true]; exact q
end RD
namespace BV
open PySem PySem.Spec PyProof.Rows L2 G0
def keyB : Key → B
  | .inl i => .int i
  | .inr x => .str x
def getB (ks : List Key) (ds : List B) (k : Key) : Option B := ((ks.zip ds).find? fun q => decide (q.1 = k)).map (·.2)
def hasB (ks : List Key) (k : Key) : Bool := ks.any fun a => decide (a = k)
section
variable {G : DK} {K : PySem.W.Frag} {W : Wd} {Γ : List Cell} {σ : L2.St} {H H' H1 : Hp} {Post P : B → Prop} {te ta tb td ty tk tv : TE} {t tr : TA} {Z : AS} {o : Sr} {e : En} {wi : TI} {g : TG} {tt : TT} {ws : List Nat} {ks : List Key} {ds : List B}
theorem rp_key {k : Key} {v : V} (h : Rp K Z o H (keyB k) v) : v = kV k := by
  cases k with
  | inl i => exact rp_int.mp h
  | inr x => exact rp_str.mp h
theorem key_rp {k : Key} : Rp K Z o H (keyB k) (kV k) := by
  cases k with
  | inl i => exact rp_int.mpr rfl
  | inr x => exact rp_str.mpr rfl
theorem get_zip {k : Key} : ∀ {ks : List Key} {ds : List B} {vs : List V}, ks.length = vs.length → Rps K Z o H ds vs → (getB ks ds k = none → valV (ks.zip vs) k = none) ∧ ∀ d, getB ks ds k = some d → ∃ v, valV (ks.zip vs) k = some v ∧ Rp K Z o H d v
  | [], ds, vs, hl, r => ⟨fun _ => rfl, fun d h => (by cases h)⟩
  | a :: ks, ds, vs, hl, r => by
    cases vs with
    | nil => cases hl
    | cons v vs =>
      cases ds with
      | nil => have := rps_len r; cases this
      | cons d ds =>
        obtain ⟨v', r', e, r1, r2⟩ := rps_cons.mp r
        cases e
        obtain ⟨i1, i2⟩ := get_zip (k := k) (ks := ks) (Nat.succ.inj hl) r2
        unfold getB valV
        rw [List.zip_cons_cons, List.zip_cons_cons, List.find?_cons, List.find?_cons]
        by_cases ha : a = k
        · rw [decide_eq_true ha]
          refine ⟨fun h => (by cases h), fun d' h => ⟨v, rfl, ?_⟩⟩
          rw [← Option.some.inj h]
          exact r1
        · rw [decide_eq_false ha]
          exact ⟨i1, i2⟩
theorem dct_rd {p : Addr} {vs : List V} (h : H p = some (.dK (ks.zip vs)) ∨ (o.L p ∧ ∃ od, H p = some (.frz od (.dK (ks.zip vs))))) : Rd H p (.dK (ks.zip vs)) := h.elim .inl fun ⟨_, od, h⟩ => .inr ⟨od, h⟩
theorem dget (h : bwE G K td Γ fun x => bwE G K ty Γ fun y => ∃ ks ds k d, x = .dct ks ds ∧ y = keyB k ∧ getB ks ds k = some d ∧ Post d) : bwE G K (tDGet td ty) Γ Post := fun W σ H Q E k =>
  RD.dget (h W σ H _ E fun x v H1 p1 k1 E1 r1 => p1 W σ H1 _ E1 fun y u H2 p2 k2 E2 r2 => by
    obtain ⟨ks, ds, kk, d, rfl, rfl, e, pd⟩ := p2
    obtain ⟨p, vs, rfl, hz, h1, hl, h2⟩ := rp_dct.mp (r1.kp E1.zs k2)
    obtain ⟨w, e1, e2⟩ := (get_zip hl h2).2 d e
    exact ⟨p, w, rfl, .inl ⟨_, kk, dct_rd h1, rp_key r2, e1.symm⟩, k d w H2 pd (k1.trans k2) E2 e2⟩)
instance st_dget  : BVSt (bwE G K (tDGet td ty) Γ Post) (bwE G K td Γ fun x => bwE G K ty Γ fun y => ∃ ks ds k d, x = .dct ks ds ∧ y = keyB k ∧ getB ks ds k = some d ∧ Post d) := ⟨fun h => dget h⟩
theorem din (h : bwE G K ty Γ fun y => bwE G K td Γ fun x => ∃ ks ds k, x = .dct ks ds ∧ y = keyB k ∧ Post (.bl (getB ks ds k).isSome)) : bwE G K (tDIn ty td) Γ Post := fun W σ H Q E k =>
  RD.din (h W σ H _ E fun y u H1 p1 k1 E1 r1 => p1 W σ H1 _ E1 fun x v H2 p2 k2 E2 r2 => by
    obtain ⟨ks, ds, kk, rfl, rfl, pd⟩ := p2
    obtain ⟨p, vs, rfl, hz, h1, hl, h2⟩ := rp_dct.mp r2
    have hs : (valV (ks.zip vs) kk).isSome = (getB ks ds kk).isSome := by
      cases e : getB ks ds kk with
      | none => rw [(get_zip hl h2).1 e]; rfl
      | some d =>
        obtain ⟨w, e1, _⟩ := (get_zip hl h2).2 d e
        rw [e1]
        rfl
    refine ⟨p, _, rfl, .inl ⟨_, kk, dct_rd h1, rp_key r1, rfl⟩, ?_⟩
    rw [hs]
    exact k _ _ H2 pd (k1.trans k2) E2 (rp_bl.mpr rfl))
instance st_din  : BVSt (bwE G K (tDIn ty td) Γ Post) (bwE G K ty Γ fun y => bwE G K td Γ fun x => ∃ ks ds k, x = .dct ks ds ∧ y = keyB k ∧ Post (.bl (getB ks ds k).isSome)) := ⟨fun h => din h⟩
theorem dnotin (h : bwE G K ty Γ fun y => bwE G K td Γ fun x => ∃ ks ds k, x = .dct ks ds ∧ y = keyB k ∧ Post (.bl (!(getB ks ds k).isSome))) : bwE G K (tDNotIn ty td) Γ Post := fun W σ H Q E k =>
  (h W σ H _ E fun y u H1 p1 k1 E1 r1 => p1 W σ H1 _ E1 fun x v H2 p2 k2 E2 r2 => by
    obtain ⟨ks, ds, kk, rfl, rfl, pd⟩ := p2
    obtain ⟨p, vs, rfl, hz, h1, hl, h2⟩ := rp_dct.mp r2
    have hs : (valV (ks.zip vs) kk).isSome = (getB ks ds kk).isSome := by
      cases e : getB ks ds kk with
      | none => rw [(get_zip hl h2).1 e]; rfl
      | some d =>
        obtain ⟨w, e1, _⟩ := (get_zip hl h2).2 d e
        rw [e1]
        rfl
    refine ⟨p, _, rfl, .inl ⟨_, kk, dct_rd h1, rp_key r1, rfl⟩, ?_⟩
    rw [hs]
    exact k _ _ H2 pd (k1.trans k2) E2 (rp_bl.mpr rfl))
instance st_dnotin  : BVSt (bwE G K (tDNotIn ty td) Γ Post) (bwE G K ty Γ fun y => bwE G K td Γ fun x => ∃ ks ds k, x = .dct ks ds ∧ y = keyB k ∧ Post (.bl (!(getB ks ds k).isSome))) := ⟨fun h => dnotin h⟩
/-- x = {} -/
theorem asgD0 {i : Nat} (h : e.N (Γ.set i (.ow (.dct [] [])))) : bwS G K (tAsg tDNewK (gName i)) Γ e := asgN (dNew h)
instance st_asgD0 {i : Nat} : BVSt (bwS G K (tAsg tDNewK (gName i)) Γ e) (e.N (Γ.set i (.ow (.dct [] [])))) := ⟨fun h => asgD0 h⟩
/-- x = [] -/
theorem asgL0 {i : Nat} (h : e.N (Γ.set i (.ow (.lst [])))) : bwS G K (tAsg (tLst tNil) (gName i)) Γ e := asgN (lstN (nil ⟨Nat.zero_le _, h⟩))
instance st_asgL0 {i : Nat} : BVSt (bwS G K (tAsg (tLst tNil) (gName i)) Γ e) (e.N (Γ.set i (.ow (.lst [])))) := ⟨fun h => asgL0 h⟩
theorem zip_vals : ∀ {ks : List Key} {vs : List V}, ks.length = vs.length → (ks.zip vs).map (·.2) = vs
  | [], [], _ => rfl
  | a :: ks, v :: vs, h => by
    rw [List.zip_cons_cons, List.map_cons, zip_vals (Nat.succ.inj h)]
theorem listVals (hU : G.U) (h : bwE G K td Γ fun x => ∃ ks ds, x = .dct ks ds ∧ Post (.lst ds)) : bwE G K (G7.tListV td) Γ Post := fun W σ H Q E k =>
  h W σ H _ E fun x v H1 p1 k1 E1 r1 => by
    obtain ⟨ks, ds, rfl, pd⟩ := p1
    obtain ⟨p, vs, rfl, hz, h1, hl, h2⟩ := rp_dct.mp r1
    rcases h1 with h1 | ⟨hL, _⟩
    · exact ⟨p, _, rfl, h1, fun np hn => k _ _ _ pd (k1.nw hn) (E1.nw hn) (rp_lst.mpr ⟨np, vs, rfl, (E1.fresh hn).2.1, by rw [upd_same, zip_vals hl], h2.kp E1.zs (Kp.refl.nw hn)⟩)⟩
    · exact absurd hL (E1.lk.1 hU p)
/-! ### a dict that is walked is locked -/
mutual
theorem Rp.lock {p : Addr} {od : Obj} {kvs : List (Key × V)} (h : H p = some (.dK kvs)) : ∀ {d : B} {v : V}, Rp K Z o H d v → Rp K Z ⟨o.s, fun q => o.L q ∨ q = p⟩ (upd H p (.frz od (.dK kvs))) d v
  | .non, v, r => by rw [rp_non] at r ⊢; exact r
  | .bl _, v, r => by rw [rp_bl] at r ⊢; exact r
  | .int _, v, r => by rw [rp_int] at r ⊢; exact r
  | .str _, v, r => by rw [rp_str] at r ⊢; exact r
  | .raw _, v, r => by rw [rp_raw] at r ⊢; exact r
  | .src, v, r => by rw [rp_src] at r ⊢; exact r
  | .mu _, v, r => by rw [rp_mu] at r ⊢; exact r
  | .tup ds, v, r => by
    obtain ⟨q, vs, rfl, h1, h2⟩ := rp_tup.mp r
    refine rp_tup.mpr ⟨q, vs, rfl, ?_, Rps.lock h h2⟩
    rcases h1 with ⟨h1, hz⟩ | h1
    · exact .inl ⟨by rw [upd_ne (ne_of h1 h (fun z => nomatch z))]; exact h1, hz⟩
    · exact .inr h1
  | .lst ds, v, r => by
    obtain ⟨q, vs, rfl, hz, h1, h2⟩ := rp_lst.mp r
    exact rp_lst.mpr ⟨q, vs, rfl, hz, by rw [upd_ne (ne_of h1 h (fun z => nomatch z))]; exact h1, Rps.lock h h2⟩
  | .dct ks ds, v, r => by
    obtain ⟨q, vs, rfl, hz, h1, hl, h2⟩ := rp_dct.mp r
    refine rp_dct.mpr ⟨q, vs, rfl, hz, ?_, hl, Rps.lock h h2⟩
    by_cases hq : q = p
    · subst hq
      rcases h1 with h1 | ⟨_, od', h1⟩
      · rw [h] at h1
        cases h1
        exact .inr ⟨.inr rfl, od, upd_same⟩
      · rw [h] at h1
        cases h1
    · rw [upd_ne hq]
      exact h1.imp id fun ⟨a, b⟩ => ⟨.inl a, b⟩
  | .xc a d f b, v, r => by
    obtain ⟨rfl, hz, u, h1, h2⟩ := rp_xc.mp r
    exact rp_xc.mpr ⟨rfl, hz, u, by rw [upd_ne (ne_of h1 h (fun z => nomatch z))]; exact h1, Rp.lock h h2⟩
  | .obj C fs ds, v, r => by
    obtain ⟨x, dx, vs, rfl, hz, h1, hl, h2⟩ := rp_obj.mp r
    exact rp_obj.mpr ⟨x, dx, vs, rfl, hz, by rw [upd_ne (ne_of h1 h (fun z => nomatch z))]; exact h1, hl, Rps.lock h h2⟩
  | .dcT ks ds, v, r => by
    obtain ⟨x, vs, rfl, hz, h1, hl, h2⟩ := rp_dcT.mp r
    exact rp_dcT.mpr ⟨x, vs, rfl, hz, by rw [upd_ne (ne_of h1 h (fun z => nomatch z))]; exact h1, hl, Rps.lock h h2⟩
theorem Rps.lock {p : Addr} {od : Obj} {kvs : List (Key × V)} (h : H p = some (.dK kvs)) : ∀ {ds : List B} {vs : List V}, Rps K Z o H ds vs → Rps K Z ⟨o.s, fun q => o.L q ∨ q = p⟩ (upd H p (.frz od (.dK kvs))) ds vs
  | [], vs, r => by rw [rps_nil] at r ⊢; exact r
  | d :: ds, vs, r => by
    obtain ⟨v, r', rfl, h1, h2⟩ := rps_cons.mp r
    exact rps_cons.mpr ⟨v, r', rfl, Rp.lock h h1, Rps.lock h h2⟩
end
mutual
theorem Rp.unlock {p : Addr} {od : Obj} {kvs : List (Key × V)} (h : H p = some (.frz od (.dK kvs))) (hn : ¬ o.L p) : ∀ {d : B} {v : V}, Rp K Z ⟨o.s, fun q => o.L q ∨ q = p⟩ H d v → Rp K Z o (upd H p (.dK kvs)) d v
  | .non, v, r => by rw [rp_non] at r ⊢; exact r
  | .bl _, v, r => by rw [rp_bl] at r ⊢; exact r
  | .int _, v, r => by rw [rp_int] at r ⊢; exact r
  | .str _, v, r => by rw [rp_str] at r ⊢; exact r
  | .raw _, v, r => by rw [rp_raw] at r ⊢; exact r
  | .src, v, r => by rw [rp_src] at r ⊢; exact r
  | .mu _, v, r => by rw [rp_mu] at r ⊢; exact r
  | .tup ds, v, r => by
    obtain ⟨q, vs, rfl, h1, h2⟩ := rp_tup.mp r
    refine rp_tup.mpr ⟨q, vs, rfl, ?_, Rps.unlock h hn h2⟩
    rcases h1 with ⟨h1, hz⟩ | h1
    · exact .inl ⟨by rw [upd_ne (ne_of h1 h (fun z => nomatch z))]; exact h1, hz⟩
    · exact .inr h1
  | .lst ds, v, r => by
    obtain ⟨q, vs, rfl, hz, h1, h2⟩ := rp_lst.mp r
    exact rp_lst.mpr ⟨q, vs, rfl, hz, by rw [upd_ne (ne_of h1 h (fun z => nomatch z))]; exact h1, Rps.unlock h hn h2⟩
  | .dct ks ds, v, r => by
    obtain ⟨q, vs, rfl, hz, h1, hl, h2⟩ := rp_dct.mp r
    refine rp_dct.mpr ⟨q, vs, rfl, hz, ?_, hl, Rps.unlock h hn h2⟩
    by_cases hq : q = p
    · subst hq
      rcases h1 with h1 | ⟨_, od', h1⟩
      · rw [h] at h1
        cases h1
      · rw [h] at h1
        cases h1
        exact .inl upd_same
    · rw [upd_ne hq]
      exact h1.imp id fun ⟨a, b⟩ => ⟨a.elim id fun z => absurd z hq, b⟩
  | .xc a d f b, v, r => by
    obtain ⟨rfl, hz, u, h1, h2⟩ := rp_xc.mp r
    exact rp_xc.mpr ⟨rfl, hz, u, by rw [upd_ne (ne_of h1 h (fun z => nomatch z))]; exact h1, Rp.unlock h hn h2⟩
  | .obj C fs ds, v, r => by
    obtain ⟨x, dx, vs, rfl, hz, h1, hl, h2⟩ := rp_obj.mp r
    exact rp_obj.mpr ⟨x, dx, vs, rfl, hz, by rw [upd_ne (ne_of h1 h (fun z => nomatch z))]; exact h1, hl, Rps.unlock h hn h2⟩
  | .dcT ks ds, v, r => by
    obtain ⟨x, vs, rfl, hz, h1, hl, h2⟩ := rp_dcT.mp r
    exact rp_dcT.mpr ⟨x, vs, rfl, hz, by rw [upd_ne (ne_of h1 h (fun z => nomatch z))]; exact h1, hl, Rps.unlock h hn h2⟩
theorem Rps.unlock {p : Addr} {od : Obj} {kvs : List (Key × V)} (h : H p = some (.frz od (.dK kvs))) (hn : ¬ o.L p) : ∀ {ds : List B} {vs : List V}, Rps K Z ⟨o.s, fun q => o.L q ∨ q = p⟩ H ds vs → Rps K Z o (upd H p (.dK kvs)) ds vs
  | [], vs, r => by rw [rps_nil] at r ⊢; exact r
  | d :: ds, vs, r => by
    obtain ⟨v, r', rfl, h1, h2⟩ := rps_cons.mp r
    exact rps_cons.mpr ⟨v, r', rfl, Rp.unlock h hn h1, Rps.unlock h hn h2⟩
end
/-- where one stands while the dict at p is walked -/
def Wd.lk (W : Wd) (Γ : List Cell) (σ : L2.St) (Hl : Hp) (p : Addr) : Wd := ⟨Hl, ZZ W Γ σ, ⟨W.o.s, fun q => W.o.L q ∨ q = p⟩, W.T, [], Hl, ZZ W Γ σ⟩
theorem zz_lk {Hl : Hp} {p q : Addr} : ZZ (W.lk Γ σ Hl p) (Γ.map hideC) σ q ↔ ZZ W Γ σ q := by
  constructor
  · rintro (h | ⟨i, b, h1, _⟩)
    · exact h
    · rw [List.getElem?_map] at h1
      cases e : Γ[i]? with
      | none => rw [e] at h1; cases h1
      | some c =>
        rw [e] at h1
        have h2 : hideC c = .ow b := Option.some.inj h1
        cases c <;> cases h2
  · exact fun h => .inl h
theorem lock_in (E : Env G K W Γ σ H) (hU : G.U) {i : Nat} (h : Γ[i]? = some (.sh (.dct ks ds))) : ∃ (p : Addr) (vs : List V), σ[i]? = some (some (.ref p)) ∧ H p = some (.dK (ks.zip vs)) ∧ ks.length = vs.length ∧ ¬ ZZ W Γ σ p ∧ ∀ od, Env G.lo K (W.lk Γ σ (upd H p (.frz od (.dK (ks.zip vs)))) p) (Γ.map hideC) σ (upd H p (.frz od (.dK (ks.zip vs)))) ∧
    Rp K (ZZ W Γ σ) (W.lk Γ σ (upd H p (.frz od (.dK (ks.zip vs)))) p).o (upd H p (.frz od (.dK (ks.zip vs)))) (.dct ks ds) (.ref p) ∧
    ∀ H', Kp W.o (upd H p (.frz od (.dK (ks.zip vs)))) H' → DOk G W H' → H' p = some (.frz od (.dK (ks.zip vs))) → Env G K W Γ σ (upd H' p (.dK (ks.zip vs))) ∧ Kp W.o H (upd H' p (.dK (ks.zip vs))) ∧ ∀ b v, Rp K (ZZ W Γ σ) ⟨W.o.s, fun q => W.o.L q ∨ q = p⟩ H' b v → Rp K (ZZ W Γ σ) W.o (upd H' p (.dK (ks.zip vs))) b v := by
  obtain ⟨v, h1, h2⟩ := E.sh i _ h
  obtain ⟨p, vs, rfl, hz, h3, hl, h4⟩ := rp_dct.mp h2
  have hp : H p = some (.dK (ks.zip vs)) := h3.elim id fun ⟨z, _⟩ => absurd z (E.lk.1 hU p)
  have ps : ¬ isS W.o p := fun z => hz (E.zs p z)
  have pst : ∀ st cl, W.o.s st cl → p ≠ st ∧ p ≠ cl := fun st cl e => ⟨fun z => ps ⟨cl, by rw [z]; exact e⟩, fun z => by
    obtain ⟨xs, q, qq⟩ := G.cl (E.dok st cl e)
    rw [← z, hp] at q
    cases q
    exact qq⟩
  refine ⟨p, vs, h1, hp, hl, hz, fun od => ⟨?_, h2.lock hp, fun H' k d hp' => ?_⟩⟩
  · have mv : ∀ {b : B} {v : V}, Rp K (ZZ W Γ σ) W.o H b v → Rp K (ZZ (W.lk Γ σ (upd H p (.frz od (.dK (ks.zip vs)))) p) (Γ.map hideC) σ) ⟨W.o.s, fun q => W.o.L q ∨ q = p⟩ (upd H p (.frz od (.dK (ks.zip vs)))) b v := fun r => (r.lock hp).less fun q z => zz_lk.mp z
    have hd : ∀ {j : Nat} {c : Cell}, (Γ.map hideC)[j]? = some c → ∃ c', Γ[j]? = some c' ∧ hideC c' = c := fun {j c} hj => by
      rw [List.getElem?_map] at hj
      cases e : Γ[j]? with
      | none => rw [e] at hj; cases hj
      | some c' => rw [e] at hj; exact ⟨c', rfl, Option.some.inj hj⟩
    refine ⟨by rw [List.length_map, E.len], fun st cl e => G.off (E.dok st cl e) (upd_ne (pst st cl e).1.symm) (upd_ne (pst st cl e).2.symm), fun st cl e => ⟨.inl (E.src st cl e).1, fun z => (E.src st cl e).2 (zz_lk.mp z)⟩, Kp.refl, fun q hq => ?_, fun b v hb => mv (E.tmp b v hb), fun j b hb => ?_, fun j b hb => ?_, fun j k b c q h1 _ _ _ => ?_, ⟨fun z => z.elim, fun z => z.elim⟩, trivial, Kp.refl, fun q z => ⟨z, ?_⟩, fun a u h => (List.not_mem_nil h).elim⟩
    · by_cases e : q = p
      · rw [e, upd_same]
        exact fun z => nomatch z
      · rw [upd_ne e]
        exact E.zz q hq
    · obtain ⟨c', e1, e2⟩ := hd hb
      cases c' <;> cases e2
      obtain ⟨u, a1, a2⟩ := E.sh j b e1
      exact ⟨u, a1, mv a2⟩
    · obtain ⟨c', e1, e2⟩ := hd hb
      cases c' <;> cases e2
    · obtain ⟨c', e1, e2⟩ := hd h1
      cases c' <;> cases e2
    · show upd H p (.frz od (.dK (ks.zip vs))) q ≠ none
      by_cases e : q = p
      · rw [e, upd_same]
        exact fun z => nomatch z
      · rw [upd_ne e]
        exact E.zz q z
  · have kk : Kp W.o H (upd H' p (.dK (ks.zip vs))) := fun b u hs hb => by
      by_cases e : b = p
      · rw [e, upd_same, ← hp, ← e, hb]
      · rw [upd_ne e]
        exact k b u hs (by rw [upd_ne e]; exact hb)
    exact ⟨E.step kk fun st cl e => G.off (d st cl e) (upd_ne (pst st cl e).1.symm) (upd_ne (pst st cl e).2.symm), kk, fun b v r => r.unlock hp' (E.lk.1 hU p)⟩
theorem wipe_hide : ∀ {ws : List Nat}, wipeC (Γ.map hideC) ws = wipeC Γ ws
  | [] => by
    show (Γ.map hideC).map hideC = Γ.map hideC
    rw [List.map_map]
    refine List.map_congr_left fun c _ => ?_
    cases c <;> rfl
  | w :: ws => by
    show (wipeC (Γ.map hideC) ws).set w .no = (wipeC Γ ws).set w .no
    rw [wipe_hide]
theorem dict_at {o : Sr} {p : Addr} {od : Obj} {kvs : List (Key × V)} (h : ∀ b v, (b, v) ∈ [(B.dct ks ds, V.ref p)] → Rp K Z o H b v) (h2 : ∀ a u, (a, u) ∈ [(p, HO.frz od (.dK kvs))] → H a = some u) : ∃ vs, kvs = ks.zip vs ∧ ks.length = vs.length ∧ Rps K Z o H ds vs := by
  obtain ⟨q, vs, e, hz, h1, hl, h3⟩ := rp_dct.mp (h _ _ (List.mem_singleton.mpr rfl))
  cases e
  have hp := h2 _ _ (List.mem_singleton.mpr rfl)
  rcases h1 with h1 | ⟨_, od', h1⟩
  · rw [hp] at h1
    cases h1
  · rw [hp] at h1
    cases h1
    exact ⟨vs, rfl, hl, h3⟩
theorem zip_len {vs : List V} (hl : ks.length = vs.length) : (ks.zip vs).length = ks.length := by rw [List.length_zip]; omega
theorem zip_at {vs : List V} (hl : ks.length = vs.length) (r : Rps K Z o H ds vs) {i : Nat} {k : Key} {v : V} (h : (ks.zip vs)[i]? = some (k, v)) : ks[i]? = some k ∧ ∃ d, ds[i]? = some d ∧ Rp K Z o H d v := by
  obtain ⟨h1, h2⟩ := List.getElem?_zip_eq_some.mp h
  exact ⟨h1, rps_atv r h2⟩
theorem wk_values {o : Sr} {p : Addr} {od : Obj} {kvs : List (Key × V)} (hk : kvs.length = ks.length) (hd : ks.length = ds.length) : WkI K o (Itd p od kvs) [(.dct ks ds, .ref p)] [(p, .frz od (.dK kvs))] ds := by
  refine ⟨fun Z H i h1 h2 hi => ⟨h2 _ _ (List.mem_singleton.mpr rfl), by omega⟩, fun Z H i h1 h2 hi => ⟨h2 _ _ (List.mem_singleton.mpr rfl), by omega⟩, fun Z H i x H' h1 h2 hz hy hi => ?_⟩
  obtain ⟨vs, rfl, hl2, r⟩ := dict_at h1 h2
  obtain ⟨rfl, k, e⟩ := hy
  obtain ⟨a1, d, a2, a3⟩ := zip_at hl2 r e
  exact ⟨Same.refl _, d, a2, a3⟩
theorem wk_keys {o : Sr} {p : Addr} {od : Obj} {kvs : List (Key × V)} (hk : kvs.length = ks.length) (hd : ks.length = ds.length) : WkI K o (Itk p od kvs) [(.dct ks ds, .ref p)] [(p, .frz od (.dK kvs))] (ks.map keyB) := by
  have hl : (ks.map keyB).length = ks.length := List.length_map ..
  refine ⟨fun Z H i h1 h2 hi => ⟨h2 _ _ (List.mem_singleton.mpr rfl), by omega⟩, fun Z H i h1 h2 hi => ⟨h2 _ _ (List.mem_singleton.mpr rfl), by omega⟩, fun Z H i x H' h1 h2 hz hy hi => ?_⟩
  obtain ⟨vs, rfl, hl2, r⟩ := dict_at h1 h2
  obtain ⟨rfl, k, v, e, rfl⟩ := hy
  obtain ⟨a1, d, a2, a3⟩ := zip_at hl2 r e
  exact ⟨Same.refl _, keyB k, by rw [List.getElem?_map, a1]; rfl, key_rp⟩
theorem lc_lock {J : List (Key × V) → Addr → Obj → It} {xs : List B} (hU : G.U) {i : Nat} (h : Γ[i]? = some (.sh (.dct ks ds))) (hw : ∀ (σ : L2.St) (H : Hp) (R : It → Hp → Prop) (p : Addr) (od : Obj) (kvs : List (Key × V)), σ[i]? = some (some (.ref p)) → H p = some (.frz od (.dK kvs)) → R (J kvs p od) H → wi σ H R)
    (wk : ∀ (o : Sr) (p : Addr) (od : Obj) (kvs : List (Key × V)), kvs.length = ks.length → ks.length = ds.length → WkI K o (J kvs p od) [(.dct ks ds, .ref p)] [(p, .frz od (.dK kvs))] xs) (q : LcT G.lo K g tt te ws Γ Post xs) : bwE G K (tLockE (tLc wi g tt te ws)) Γ Post := fun W σ H Q E k => by
  obtain ⟨p, vs, h1, hp, hl, hz, kk⟩ := lock_in E hU h
  refine ⟨p, _, hp, trivial, fun od => ?_⟩
  obtain ⟨E1, r1, back⟩ := kk od
  have hds : ks.length = ds.length := by
    obtain ⟨_, vs', _, _, _, a, b⟩ := rp_dct.mp r1
    rw [a, rps_len b]
  unfold tLc
  refine hw σ _ _ p od (ks.zip vs) h1 upd_same fun D hD => ?_
  have q' : LcT G.lo K g tt te ws (Γ.map hideC) Post xs := by
    unfold LcT
    rw [wipe_hide]
    exact q
  have t2 : ∀ a u, (a, u) ∈ [(p, HO.frz od (.dK (ks.zip vs)))] → upd H p (.frz od (.dK (ks.zip vs))) a = some u ∧ ¬ ZZ (W.lk Γ σ (upd H p (.frz od (.dK (ks.zip vs)))) p) (Γ.map hideC) σ a := fun a u ha => by
    rw [List.mem_singleton] at ha
    cases ha
    exact ⟨upd_same, fun z => hz (zz_lk.mp z)⟩
  obtain ⟨f1, f2, f3⟩ := E1.fresh hD
  refine lc_go (Q := fun v H' => H' p = some (.frz od (.dK (ks.zip vs))) ∧ Q v (upd H' p (.dK (ks.zip vs)))) E1 (fun b v hb => ?_) t2 (wk _ p od _ (zip_len hl) hds) q' hD fun acc H' pa k2 E' ow t2' => ?_
  · rw [List.mem_singleton] at hb
    cases hb
    exact r1.less fun q z => zz_lk.mp z
  · have hp' := t2' _ _ (List.mem_singleton.mpr rfl)
    obtain ⟨b1, b2, b3⟩ := back H' k2 E'.dok hp'
    refine ⟨hp', k (.lst acc) (.ref D) _ pa b2 b1 (b3 _ _ ?_)⟩
    exact (ow.mv fun b n _ z => n (zz_plus.mpr (.inl (zz_lk.mpr z)))).rp fun z => f2 (zz_lk.mpr z)
theorem lcValues (hU : G.U) {i : Nat} (h : Γ[i]? = some (.sh (.dct ks ds))) (q : LcT G.lo K g tt te ws Γ Post ds) : bwE G K (tLockE (tLc (iVals (tVar i)) g tt te ws)) Γ Post :=
  lc_lock (J := fun kvs p od => Itd p od kvs) hU h (fun σ H R p od kvs a b c => RD.ivals (RD.var a ⟨p, od, kvs, rfl, b, c⟩)) (fun o p od kvs a b => wk_values a b) q
theorem lcKeys (hU : G.U) {i : Nat} (h : Γ[i]? = some (.sh (.dct ks ds))) (q : LcT G.lo K g tt te ws Γ Post (ks.map keyB)) : bwE G K (tLockE (tLc (iKeys (tVar i)) g tt te ws)) Γ Post :=
  lc_lock (J := fun kvs p od => Itk p od kvs) hU h (fun σ H R p od kvs a b c => RD.ikeys (RD.var a ⟨p, od, rfl, .inl ⟨kvs, b, c⟩⟩)) (fun o p od kvs a b => wk_keys a b) q
end
end BV
set_option Elab.async false
set_option linter.all false
set_option maxRecDepth 100000
set_option maxHeartbeats 4000000
/-! by value: dicts that are made -/
namespace BV
open PySem PySem.Spec PyProof.Rows L2 G0
end BV
set_option Elab.async false
set_option linter.all false
set_option maxRecDepth 100000
set_option maxHeartbeats 4000000
/-! by value: loops over a known list, turn by turn; tables of texts; f-strings; isinstance of several -/
namespace RD
open PySem PySem.Spec PyProof.Rows L2 G0
theorem kget' {K : PySem.W.Frag} {w : World} {td ty : TE} {σ : L2.St} {H : Hp} {Q : VK} (h : td σ H fun x H1 => ∃ p, x = .ref p ∧ KD K w p ∧ ty σ H1 fun y H2 => ∃ z r, y = .str z ∧ PySem.W.nsIn K p z = some r ∧ (∀ u, r = some u → ∃ v, RelV v u ∧ Q v H2) ∧ (r = none → Q .non H2)) : tKGet K w td ty σ H Q := h
end RD
namespace BV
open PySem PySem.Spec PyProof.Rows L2 G0
/-- a loop over these items, turn by turn -/
def bwFor (G : DK) (K : PySem.W.Frag) (g : TG) (tb : TS) (e : En) : List B → List Cell → Prop
  | [], Γ => e.N Γ
  | d :: ds, Γ => bwG G K g d Γ fun g' => bwS G K tb g' ⟨bwFor G K g tb e ds, e.R, e.N, bwFor G K g tb e ds, e.RO⟩
/-- a comprehension over these items, turn by turn -/
def bwLc (G : DK) (K : PySem.W.Frag) (g : TG) (tt : TT) (te : TE) (ws : List Nat) (Γ : List Cell) (P : B → Prop) : List B → List B → Prop
  | [], acc => P (.lst acc)
  | d :: ds, acc => bwGv G K ws g d (wipeC Γ ws) fun g' => bwT G K tt g' fun b => if b = true then bwE G K te g' fun y => acc.length < sizeLine ∧ bwLc G K g tt te ws Γ P ds (acc ++ [y]) else bwLc G K g tt te ws Γ P ds acc
section
variable {G : DK} {K : PySem.W.Frag} {Γ : List Cell} {Post P : B → Prop} {te ta tb td ty : TE} {t1 : TS} {e : En} {wi : TI} {g : TG} {tt : TT} {ws : List Nat} {ds acc : List B}
theorem forNil (h : e.N Γ) : bwFor G K g t1 e [] Γ := h
instance st_forNil  : BVSt (bwFor G K g t1 e [] Γ) (e.N Γ) := ⟨fun h => forNil h⟩
theorem forCons {d : B} (h : bwG G K g d Γ fun g' => bwS G K t1 g' ⟨bwFor G K g t1 e ds, e.R, e.N, bwFor G K g t1 e ds, e.RO⟩) : bwFor G K g t1 e (d :: ds) Γ := h
instance st_forCons {d : B} : BVSt (bwFor G K g t1 e (d :: ds) Γ) (bwG G K g d Γ fun g' => bwS G K t1 g' ⟨bwFor G K g t1 e ds, e.R, e.N, bwFor G K g t1 e ds, e.RO⟩) := ⟨fun h => forCons h⟩
theorem lcNil (h : P (.lst acc)) : bwLc G K g tt te ws Γ P [] acc := h
instance st_lcNil  : BVSt (bwLc G K g tt te ws Γ P [] acc) (P (.lst acc)) := ⟨fun h => lcNil h⟩
theorem lcCons {d : B} (h : bwGv G K ws g d (wipeC Γ ws) fun g' => bwT G K tt g' fun b => if b = true then bwE G K te g' fun y => acc.length < sizeLine ∧ bwLc G K g tt te ws Γ P ds (acc ++ [y]) else bwLc G K g tt te ws Γ P ds acc) : bwLc G K g tt te ws Γ P (d :: ds) acc := h
instance st_lcCons {d : B} : BVSt (bwLc G K g tt te ws Γ P (d :: ds) acc) (bwGv G K ws g d (wipeC Γ ws) fun g' => bwT G K tt g' fun b => if b = true then bwE G K te g' fun y => acc.length < sizeLine ∧ bwLc G K g tt te ws Γ P ds (acc ++ [y]) else bwLc G K g tt te ws Γ P ds acc) := ⟨fun h => lcCons h⟩
/-- each item gives f of it -/
theorem lcT_map (f : B → B) (hz : ds.length ≤ sizeLine) (h : ∀ (k : Nat) (d : B), ds[k]? = some d → bwGv G K ws g d (wipeC Γ ws) fun g' => bwE G K te g' fun y => y = f d) (q : Post (.lst (ds.map f))) : LcT G K g tYes te ws Γ Post ds := by
  refine ⟨fun k acc => k ≤ ds.length ∧ acc = (ds.take k).map f, ⟨Nat.zero_le _, rfl⟩, fun k d acc hk ⟨h1, h2⟩ => ?_, fun acc ⟨h1, h2⟩ => by rw [h2, List.take_length]; exact q⟩
  have hlt := (List.getElem?_eq_some_iff.mp hk).1
  refine fun W σ H v QS E r q => h k d hk W σ H v QS E r fun Γ' σ' p => q Γ' σ' (yes ?_)
  rw [if_pos rfl]
  refine p.mono fun y hy => ⟨by rw [h2, List.length_map, List.length_take]; omega, hlt, ?_⟩
  rw [h2, List.take_succ, hk, hy, List.map_append]
  rfl
/-! ### tables of texts -/
abbrev TabS := List (Str × List Str)
structure FTS (K : PySem.W.Frag) (w : World) (mg : Str → Option Value) (x : Str) (tab : TabS) : Prop where
  ex : ∃ p, mg x = some (.ref p) ∧ KD K w p ∧ ∀ z : Str, match tab.lookup z with
    | none => PySem.W.nsIn K p z = some none
    | some fs => ∃ t : Addr, PySem.W.nsIn K p z = some (some (.ref t)) ∧ ∀ H, SqT K H t (fs.map V.str)
def formB (o : Option (List Str)) : B := match o with
  | none => .non
  | some fs => .tup (fs.map B.str)
theorem kgetB {w : World} {p : Addr} {tab : TabS} (kd : KD K w p) (l : ∀ z : Str, match tab.lookup z with
    | none => PySem.W.nsIn K p z = some none
    | some fs => ∃ t : Addr, PySem.W.nsIn K p z = some (some (.ref t)) ∧ ∀ H, SqT K H t (fs.map V.str))
    (h : bwE G K ty Γ fun y => ∃ z, y = .str z ∧ Post (formB (tab.lookup z))) : bwE G K (tKGet K w (tC (.ref p)) ty) Γ Post := fun W σ H Q E k =>
  RD.kget' (RD.c_ ⟨p, rfl, kd, h W σ H _ E fun y v H1 py k1 E1 r1 => by
    obtain ⟨z, rfl, py⟩ := py
    have lz := l z
    cases e : tab.lookup z with
    | none =>
      rw [e] at lz py
      exact ⟨z, none, rp_str.mp r1, lz, fun u h => (nomatch h), fun _ => k _ _ H1 py k1 E1 (rp_non.mpr rfl)⟩
    | some fs =>
      rw [e] at lz py
      obtain ⟨t, lt, ht⟩ := lz
      exact ⟨z, _, rp_str.mp r1, lt, fun u h => ⟨.ref t, by cases h; rfl, k _ _ H1 py k1 E1 (rp_tup.mpr ⟨t, _, rfl, .inr ht, strs_rps⟩)⟩, fun h => (nomatch h)⟩⟩)
/-! ### f-strings -/
def bwJs (G : DK) (K : PySem.W.Frag) : List TE → Str → List Cell → (Str → Prop) → Prop
  | [], acc, _, P => P acc
  | t :: ts, acc, Γ, P => bwE G K t Γ fun x => ∃ y : Str, x = .str y ∧ (acc ++ y).length ≤ sizeLine ∧ bwJs G K ts (acc ++ y) Γ P
theorem js_run : ∀ {ts : List TE} {acc : Str} {P : Str → Prop}, bwJs G K ts acc Γ P → ∀ (W : Wd) (σ : L2.St) (H : Hp) (Q : Str → Hp → Prop), Env G K W Γ σ H → (∀ z H', P z → Kp W.o H H' → Env G K W Γ σ H' → Q z H') → tJs ts acc σ H Q
  | [], acc, P, h, W, σ, H, Q, E, k => k acc H h Kp.refl E
  | t :: ts, acc, P, h, W, σ, H, Q, E, k => h W σ H _ E fun x v H1 p1 k1 E1 r1 => by
    obtain ⟨y, rfl, hz, p1⟩ := p1
    exact ⟨y, rp_str.mp r1, hz, js_run p1 W σ H1 Q E1 fun z H' pz k2 => k z H' pz (k1.trans k2)⟩
theorem joined {ts : List TE} (h : bwJs G K ts Str.empty Γ fun z => Post (.str z)) : bwE G K (fun σ H Q => tJs ts Str.empty σ H fun out H1 => Q (.str out) H1) Γ Post := fun W σ H Q E k =>
  js_run h W σ H _ E fun z H' pz k1 E1 => k _ _ H' pz k1 E1 (rp_str.mpr rfl)
instance st_joined {ts : List TE} : BVSt (bwE G K (fun σ H Q => tJs ts Str.empty σ H fun out H1 => Q (.str out) H1) Γ Post) (bwJs G K ts Str.empty Γ fun z => Post (.str z)) := ⟨fun h => joined h⟩
theorem jsCons {t : TE} {ts : List TE} {acc : Str} {P : Str → Prop} (h : bwE G K t Γ fun x => ∃ y : Str, x = .str y ∧ (acc ++ y).length ≤ sizeLine ∧ bwJs G K ts (acc ++ y) Γ P) : bwJs G K (t :: ts) acc Γ P := h
instance st_jsCons {t : TE} {ts : List TE} {acc : Str} {P : Str → Prop} : BVSt (bwJs G K (t :: ts) acc Γ P) (bwE G K t Γ fun x => ∃ y : Str, x = .str y ∧ (acc ++ y).length ≤ sizeLine ∧ bwJs G K ts (acc ++ y) Γ P) := ⟨fun h => jsCons h⟩
theorem jsNil {acc : Str} {P : Str → Prop} (h : P acc) : bwJs G K [] acc Γ P := h
instance st_jsNil {acc : Str} {P : Str → Prop} : BVSt (bwJs G K [] acc Γ P) (P acc) := ⟨fun h => jsNil h⟩
theorem fmtS (h : bwE G K te Γ fun x => ∃ y : Str, x = .str y ∧ y.length ≤ sizeLine ∧ Post (.str y)) : bwE G K (tFmt te) Γ Post := fun W σ H Q E k =>
  h W σ H _ E fun x v H1 p1 k1 E1 r1 => by
    obtain ⟨y, rfl, hz, p⟩ := p1
    exact .inl ⟨y, rp_str.mp r1, hz, k _ _ H1 p k1 E1 (rp_str.mpr rfl)⟩
instance st_fmtS  : BVSt (bwE G K (tFmt te) Γ Post) (bwE G K te Γ fun x => ∃ y : Str, x = .str y ∧ y.length ≤ sizeLine ∧ Post (.str y)) := ⟨fun h => fmtS h⟩
/-! ### isinstance of two classes -/
theorem kit_any {x : B} {S1 S2 : String} (hx : isPlainB x = true) (h1 : S1 ∈ ["bool", "int", "str", "tuple", "list", "dict"]) (h2 : S2 ∈ ["bool", "int", "str", "tuple", "list", "dict"]) : PySem.W.kitAny K (.type (BV.ty x)) [.type S1, .type S2] = some (isTy x S1 || isTy x S2) := by
  refine kitAny_cons (kit_is hx h1) (fun e => ?_) fun e => by rw [e]; rfl
  rw [e]
  refine kitAny_cons (kit_is hx h2) (fun e => ?_) fun e => by rw [e]; rfl
  rw [e]
  exact kitAny_nil
theorem isiT2 {S1 S2 : String} (h1 : S1 ∈ ["bool", "int", "str", "tuple", "list", "dict"]) (h2 : S2 ∈ ["bool", "int", "str", "tuple", "list", "dict"]) (h : bwE G K te Γ fun x => isPlainB x = true ∧ Post (.bl (isTy x S1 || isTy x S2))) :
    bwE G K (tCB (rIsiT K) (tCons te (tCons (tTup (tCons (tC (.ty S1)) (tCons (tC (.ty S2)) tNil))) tNil))) Γ Post := fun W σ H Q E k =>
  RD.cb (RD.cons (h W σ H _ E fun x v H1 p k1 E1 r1 => RD.cons (RD.tup (RD.cons (RD.c_ (RD.cons (RD.c_ (RD.nil ⟨Nat.le_of_ble_eq_true rfl, fun p0 np => RD.nil ⟨v, p0, _, _, _, _, rfl, upd_same, .cons (.ty S1) (.cons (.ty S2) .nil), ty_rp (r1.kp E1.zs (Kp.refl.nw np)) p.1, kit_any p.1 h1 h2, k _ _ _ p.2 (k1.nw np) (E1.nw np) (rp_bl.mpr rfl)⟩⟩))))))))
end
end BV
set_option Elab.async false
set_option linter.all false
set_option maxRecDepth 100000
set_option maxHeartbeats 4000000
/-! rules of our own: == of nested lists, tuples and dicts; an instance made in a try -/
namespace G3
open PySem PySem.Spec PyProof.Rows L2
/-- two tuples of equal items -/
def EqT (K : PySem.W.Frag) (H : Hp) (E : V → V → Prop) (x y : V) : Prop := ∃ a b xs ys, x = .ref a ∧ y = .ref b ∧ SqT K H a xs ∧ SqT K H b ys ∧ Paired E xs ys
def EqW (K : PySem.W.Frag) (H : Hp) : Nat → V → V → Prop
  | 0 => fun _ _ => False
  | n + 1 => fun x y => (x = y ∧ flatB x = true) ∨ (∃ a, x = .ref a ∧ y = .ref a) ∨ EqR K H (EqW K H n) x y ∨ EqT K H (EqW K H n) x y
section
variable {X : Cx} {pins : List (Addr × Obj)} {σ : L2.St} {H : Hp} {s : Shared}
theorem eqT_run (I : Inv X pins σ H s) {A : Around} {F : V → V → Prop} (hu : A.units < cLine) (ih : ∀ x y v u, F x y → RelV x v → RelV y u → SeqAt.EqP X.prog X.w A.in1 s v u true) {x y : V} {v u : Value} (h : EqT X.K H F x y) (rx : RelV x v) (ry : RelV y u)
    (E Q : Value → Shared → Prop) (q : Q (.bool true) s) : wpAny (model X.prog X.w) A (richCompare .Eq v u) Q E s := by
  obtain ⟨a, b, xs, ys, rfl, rfl, ha, hb, hp⟩ := h
  cases (show v = Value.ref a from rx)
  cases (show u = Value.ref b from ry)
  obtain ⟨us, r1, p1, _⟩ := I.tuple ha
  obtain ⟨ws, r2, p2, _⟩ := I.tuple hb
  have hsz : us.toArray.size = ws.toArray.size := by
    rw [List.size_toArray, List.size_toArray, ← r1.length, ← r2.length]
    exact Paired.length hp
  refine GQ.rc_tupG hsz hu (fun _ s' => s' = s) p1 p2 (fun j h1 h2 s' e => ?_) (fun s' e => by rw [e]; exact q) rfl
  subst e
  have k := items_run (P := X.prog) (w := X.w) (A := A.in1) (s := s') ih hp r1 r2 j (by simpa using h1) (by simpa using h2)
  have k2 : SeqAt.EqP X.prog X.w A.in1 s' us.toArray[j] ws.toArray[j] true := by simpa using k
  exact k2 E _ ⟨rfl, rfl⟩
theorem eqW_run (I : Inv X pins σ H s) : ∀ (n : Nat) (A : Around), A.units + n < cLine → ∀ (x y : V) (v u : Value), EqW X.K H n x y → RelV x v → RelV y u → SeqAt.EqP X.prog X.w A s v u true
  | 0, _, _, _, _, _, _, h, _, _ => (show False from h).elim
  | n + 1, A, hu, x, y, v, u, h, rx, ry => by
    have fin : (∃ a b, x = .ref a ∧ y = .ref b) → (∀ (E Q : Value → Shared → Prop), Q (.bool true) s → wpAny (model X.prog X.w) A (richCompare .Eq v u) Q E s) → SeqAt.EqP X.prog X.w A s v u true := fun e step => by
      obtain ⟨a, b, rfl, rfl⟩ := e
      cases (show v = Value.ref a from rx)
      cases (show u = Value.ref b from ry)
      by_cases e : a = b
      · subst e
        exact (SeqAt.EqAt.same _).eqP
      · exact SeqAt.eqP_refs e step
    have ih := eqW_run I n A.in1 (by show A.units + 1 + n < cLine; omega)
    rcases h with ⟨rfl, f⟩ | ⟨a, rfl, rfl⟩ | h | h
    · exact (eqAt_same rx ry f).eqP
    · cases (show v = Value.ref a from rx)
      cases (show u = Value.ref a from ry)
      exact (SeqAt.EqAt.same _).eqP
    · refine fin ?_ (eqR_run I (A := A) (by omega) ih h rx ry)
      rcases h with ⟨a, b, _, _, e1, e2, _⟩ | ⟨a, b, _, _, e1, e2, _⟩
      · exact ⟨a, b, e1, e2⟩
      · exact ⟨a, b, e1, e2⟩
    · refine fin ?_ (eqT_run I (A := A) (by omega) ih h rx ry)
      obtain ⟨a, b, _, _, e1, e2, _⟩ := h
      exact ⟨a, b, e1, e2⟩
end
section
variable {X : Cx}
/-- a == b, two lists, tuples or dicts that are equal -/
def rEqW (K : PySem.W.Frag) : R2 := fun x y H Q => ∃ n, n ≤ 60 ∧ (EqR K H (EqW K H n) x y ∨ EqT K H (EqW K H n) x y) ∧ Q (.bl true) H
theorem op_eqW (hu : X.A.units + 64 < cLine) : OpR X (compareOp .Eq) (rEqW X.K) := by
  intro pins s σ H x y v u Q I rx ry h
  obtain ⟨n, hn, h, q⟩ := h
  have ih := eqW_run I n X.A.in1 (by show X.A.units + 1 + n < cLine; omega)
  rcases h with h | h
  · exact eqR_run I (A := X.A) (by omega) ih h rx ry _ _ ⟨.bl true, H, I, rfl, q⟩
  · exact eqT_run I (A := X.A) (by omega) ih h rx ry _ _ ⟨.bl true, H, I, rfl, q⟩
end
/-! ### an instance made where its __init__ may raise, in a try -/
end G3
set_option Elab.async false
set_option linter.all false
set_option maxRecDepth 100000
set_option maxHeartbeats 4000000
/-! != of lists that are equal in depth; isinstance of a caught error that has a field -/
namespace G8
open PySem PySem.Spec PyProof.Rows L2
open AutoSeq1 (wpAny_loadPart')
open MeetsSeq MeetsSeq2 MeetsSeq3 SeqRoads2 SeqAt
/-! ### str of a text or an int -/
def rStr2 : List V → Hp → VK → Prop := fun xs H Q => (∃ i : Int, xs = [.int i] ∧ i.natAbs.log2 < 1920 ∧ Q (.str (toString i)) H) ∨ ∃ a : Str, xs = [.str a] ∧ Q (.str a) H
/-! ### isinstance(e, C), e a caught error of class D that has a dict -/
end G8
set_option Elab.async false
set_option linter.all false
set_option maxRecDepth 100000
set_option maxHeartbeats 4000000
/-! by value: own lists that grow and shrink; == in depth; defs that raise -/
namespace BV
open PySem PySem.Spec PyProof.Rows L2 G0
section
variable {G : DK} {K : PySem.W.Frag} {W : Wd} {Γ : List Cell} {σ : L2.St} {H H' H1 : Hp} {Post P : B → Prop} {te ta tb : TE} {t tr : TA} {Z Z' : AS} {o : Sr} {t1 t2 : TS} {e : En}
/-! ### x op= e; truth -/
theorem augI {i : Nat} {x : Int} {f : Int → Int → Int} (h : Γ[i]? = some (.sh (.int x))) (q : bwE G K te Γ fun y => ∃ j, y = .int j ∧ e.N (Γ.set i (.sh (.int (f x j))))) : bwS G K (tAug i te (ipI f)) Γ e := fun W σ H D E q1 q2 q3 q4 q5 => by
  obtain ⟨v, h1, h2⟩ := E.sh i _ h
  rw [rp_int.mp h2] at h1
  refine RD.aug h1 (q W σ H _ E fun y u H1 p k1 E1 r1 => ?_)
  obtain ⟨j, rfl, p⟩ := p
  exact ⟨x, j, rfl, rp_int.mp r1, q1 _ _ _ p (E1.set (rp_int.mpr rfl))⟩
theorem isEmpty_rps {ds : List B} {vs : List V} (h : Rps K Z o H ds vs) : (!ds.isEmpty) = !vs.isEmpty := by
  cases ds with
  | nil => rw [rps_nil.mp h]; rfl
  | cons d ds => obtain ⟨v, r, rfl, _⟩ := rps_cons.mp h; rfl
theorem truO {PB : Bool → Prop} {i : Nat} {ds : List B} (h : Γ[i]? = some (.ow (.lst ds))) (q : PB (!ds.isEmpty)) : bwT G K (fun σ H Q => tVar i σ H fun x H' => ∃ k, TruV K x H' k ∧ Q k H') Γ PB := fun W σ H Q E k => by
  obtain ⟨p, h1, _, _, vs, h4, h5⟩ := E.ow i _ h
  exact RD.var h1 ⟨_, .inl ⟨vs, SqL.of h4, isEmpty_rps h5⟩, k _ H q Kp.refl E⟩
theorem str2S {z : Str} (q : Post (.str z)) : bwRA G K G8.rStr2 [.str z] Post := fun W Γ σ H vs Q E r k => by
  obtain ⟨v, r, rfl, a1, a2⟩ := rps_cons.mp r
  obtain rfl := rps_nil.mp a2
  rw [rp_str.mp a1]
  exact .inr ⟨z, rfl, k _ _ H q Kp.refl E (rp_str.mpr rfl)⟩
instance st_str2S {z : Str} : BVSt (bwRA G K G8.rStr2 [.str z] Post) (Post (.str z)) := ⟨fun h => str2S h⟩
theorem at0' {α : Type} {x : α} {r : List α} : atI (x :: r) 0 = some x := at_n (n := 0) rfl
theorem neg1 {i : Int} (q : Post (.int (-i))) : bwR1 G K (rU fun i => .int (-i)) (.int i) Post := fun W Γ σ H v Q E r k => by
  rw [rp_int.mp r]
  exact ⟨i, rfl, k _ _ H q Kp.refl E (rp_int.mpr rfl)⟩
instance st_neg1 {i : Int} : BVSt (bwR1 G K (rU fun i => .int (-i)) (.int i) Post) (Post (.int (-i))) := ⟨fun h => neg1 h⟩
/-! ### own lists -/
theorem off_own {i : Nat} {b : B} {p : Addr} {u : HO} (h : Γ[i]? = some (.ow b)) (h1 : σ[i]? = some (some (.ref p))) : ∀ c v, (¬ ZZ W Γ σ c ∨ isS W.o c) → ¬ ZZ W Γ σ c → H c = some v → upd H p u c = some v := fun c v _ n hc => by
  rw [upd_ne fun e => n (.inr ⟨i, _, h, by rw [e]; exact h1⟩)]
  exact hc
theorem asgPop {i j : Nat} {ds : List B} {d : B} (h : Γ[i]? = some (.ow (.lst (ds ++ [d])))) (q : e.N ((Γ.set i (.ow (.lst ds))).set j (.sh d))) : bwS G K (tAsg (tBM0 K "list" rPop (tVar i)) (gName j)) Γ e := fun W σ H D E q1 q2 q3 q4 q5 => by
  obtain ⟨p, h1, h2, h3, vs, h4, h5⟩ := E.ow i _ h
  have hl := rps_len h5
  rw [List.length_append, List.length_singleton] at hl
  obtain ⟨v, hv, rv⟩ := rps_at (i := ds.length) (d := d) h5 (by simp)
  refine RD.asg (RD.bm0 (RD.var h1 ⟨.inl ⟨rfl, _, SqL.of h4⟩, p, vs, v, rfl, rfl, h4, by rw [← hl]; exact hv, RD.gname (q1 _ _ _ q ?_)⟩))
  have off := off_own (W := W) (H := H) (u := .lst vs.dropLast) h h1
  have hd := rps_take ds.length h5
  rw [List.take_left, ← show vs.length - 1 = ds.length by omega, ← List.dropLast_eq_take] at hd
  have E2 := E.mut (b' := .lst ds) (u := .lst vs.dropLast) h h1 ⟨_, upd_same, hd.off off⟩
  have hzz : ∀ c, ZZ W (Γ.set i (.ow (.lst ds))) σ c → ZZ W Γ σ c := fun c z => by
    rcases z with z | ⟨k, b, k1, k2⟩
    · exact .inl z
    · by_cases hk : i = k
      · subst hk
        exact .inr ⟨i, _, h, k2⟩
      · rw [List.getElem?_set_ne hk] at k1
        exact .inr ⟨k, b, k1, k2⟩
  exact E2.set ((rv.off off).less hzz)
theorem extend {i : Nat} {ds : List B} (h : Γ[i]? = some (.ow (.lst ds))) (q : bwE G K te Γ fun b => ∃ es, b = .lst es ∧ ds.length + es.length ≤ sizeLine ∧ e.N (Γ.set i (.ow (.lst (ds ++ es))))) : bwS G K (tDrop (tBM K "list" rExtend (tVar i) (tCons te tNil))) Γ e := fun W σ H D E q1 q2 q3 q4 q5 => by
  obtain ⟨p, h1, h2, h3, vs, h4, h5⟩ := E.ow i _ h
  refine RD.drop (RD.bm ⟨.ref p, h1, .inl ⟨rfl, _, SqL.of h4⟩, RD.cons (q W σ H _ E fun b v H1 pb k1 E1 r1 => RD.nil ?_)⟩)
  have hp1 := k1 p _ (E.noS h h1) h4
  obtain ⟨es, rfl, hz, n⟩ := pb
  obtain ⟨pe, ws, rfl, he, h6, h7⟩ := rp_lst.mp r1
  refine ⟨p, pe, vs, ws, rfl, rfl, hp1, h6, by rw [← rps_len h5, ← rps_len h7]; exact hz, q1 _ _ _ n (E1.mut h h1 ⟨vs ++ ws, upd_same, ?_⟩)⟩
  have off := off_own (W := W) (H := H1) (u := .lst (vs ++ ws)) h h1
  exact rps_app ((h5.kp E.zs k1).off off) (h7.off off)
/-! ### equal in depth -/
mutual
/-- data of nesting below n; keys of dicts are unlike -/
def finB : Nat → B → Bool
  | _, .src => false
  | _, .raw _ => false
  | _, .xc _ _ _ _ => false
  | _, .obj _ _ _ => false
  | _, .dcT _ _ => false
  | _, .mu _ => false
  | n, .tup ds => decide (0 < n) && finsB (n - 1) ds
  | n, .lst ds => decide (0 < n) && finsB (n - 1) ds
  | n, .dct ks ds => decide (0 < n) && (decide (ks.length = ds.length) && (decide ks.Nodup && finsB (n - 1) ds))
  | n, _ => decide (0 < n)
def finsB : Nat → List B → Bool
  | _, [] => true
  | n, d :: ds => finB n d && finsB n ds
end
theorem val_zip {k : Key} {v : V} : ∀ {ks : List Key} {vs : List V} {i : Nat}, ks.Nodup → ks[i]? = some k → vs[i]? = some v → valV (ks.zip vs) k = some v
  | [], vs, i, _, h1, _ => by simp at h1
  | a :: ks, [], i, _, _, h2 => by simp at h2
  | a :: ks, w :: vs, 0, _, h1, h2 => by
    obtain rfl : a = k := by simpa using h1
    obtain rfl : w = v := by simpa using h2
    unfold valV
    rw [List.zip_cons_cons, List.find?_cons, decide_eq_true rfl]
    rfl
  | a :: ks, w :: vs, i + 1, nd, h1, h2 => by
    have h1' : ks[i]? = some k := by simpa using h1
    have ha : a ≠ k := fun e => (List.nodup_cons.mp nd).1 (by rw [e]; exact List.mem_of_getElem? h1')
    unfold valV
    rw [List.zip_cons_cons, List.find?_cons, decide_eq_false ha]
    exact val_zip (List.nodup_cons.mp nd).2 h1' (by simpa using h2)
theorem pair_at {R : V → V → Prop} {xs ys : List V} (h : Paired R xs ys) : ∀ {i : Nat} {x : V}, xs[i]? = some x → ∃ y, ys[i]? = some y ∧ R x y := by
  induction h with
  | nil => intro i x e; simp at e
  | cons a _ ih =>
    intro i x e
    cases i with
    | zero =>
      obtain rfl := Option.some.inj e
      exact ⟨_, rfl, a⟩
    | succ i => exact ih (by simpa using e)
mutual
theorem eq_rp {o' : Sr} (nl : ∀ p, ¬ o.L p) (nl' : ∀ p, ¬ o'.L p) : ∀ {n : Nat} {b : B} {x y : V}, finB n b = true → Rp K Z o H b x → Rp K Z' o' H b y → G3.EqW K H n x y
  | 0, b, x, y, h, _, _ => by cases b <;> simp [finB] at h
  | n + 1, .non, x, y, _, r1, r2 => by rw [rp_non.mp r1, rp_non.mp r2]; exact .inl ⟨rfl, rfl⟩
  | n + 1, .bl _, x, y, _, r1, r2 => by rw [rp_bl.mp r1, rp_bl.mp r2]; exact .inl ⟨rfl, rfl⟩
  | n + 1, .int _, x, y, _, r1, r2 => by rw [rp_int.mp r1, rp_int.mp r2]; exact .inl ⟨rfl, rfl⟩
  | n + 1, .str _, x, y, _, r1, r2 => by rw [rp_str.mp r1, rp_str.mp r2]; exact .inl ⟨rfl, rfl⟩
  | n + 1, .src, x, y, h, _, _ => by simp [finB] at h
  | n + 1, .raw _, x, y, h, _, _ => by simp [finB] at h
  | n + 1, .xc _ _ _ _, x, y, h, _, _ => by simp [finB] at h
  | n + 1, .obj _ _ _, x, y, h, _, _ => by simp [finB] at h
  | n + 1, .dcT _ _, x, y, h, _, _ => by simp [finB] at h
  | n + 1, .mu _, x, y, h, _, _ => by simp [finB] at h
  | n + 1, .tup ds, x, y, h, r1, r2 => by
    rw [finB, Bool.and_eq_true] at h
    obtain ⟨p, vs, rfl, h1, h2⟩ := rp_tup.mp r1
    obtain ⟨q, ws, rfl, h3, h4⟩ := rp_tup.mp r2
    exact .inr (.inr (.inr ⟨p, q, vs, ws, rfl, rfl, h1.sq, h3.sq, eqs_rp nl nl' h.2 h2 h4⟩))
  | n + 1, .lst ds, x, y, h, r1, r2 => by
    rw [finB, Bool.and_eq_true] at h
    obtain ⟨p, vs, rfl, _, h1, h2⟩ := rp_lst.mp r1
    obtain ⟨q, ws, rfl, _, h3, h4⟩ := rp_lst.mp r2
    exact .inr (.inr (.inl (.inl ⟨p, q, vs, ws, rfl, rfl, SqL.of h1, SqL.of h3, eqs_rp nl nl' h.2 h2 h4⟩)))
  | n + 1, .dct ks ds, x, y, h, r1, r2 => by
    rw [finB, Bool.and_eq_true, Bool.and_eq_true, Bool.and_eq_true] at h
    obtain ⟨p, vs, rfl, _, h1, hl, h2⟩ := rp_dct.mp r1
    obtain ⟨q, ws, rfl, _, h3, hl', h4⟩ := rp_dct.mp r2
    have h1 := h1.elim id fun ⟨z, _⟩ => absurd z (nl p)
    have h3 := h3.elim id fun ⟨z, _⟩ => absurd z (nl' q)
    have hp := eqs_rp nl nl' h.2.2.2 h2 h4
    refine .inr (.inr (.inl (.inr ⟨p, q, _, _, rfl, rfl, h1, h3, by rw [List.length_zip, List.length_zip]; omega, fun kv hm => ?_⟩)))
    obtain ⟨i, hi⟩ := List.getElem?_of_mem hm
    have hz := List.getElem?_zip_eq_some.mp hi
    obtain ⟨u, hu, e⟩ := pair_at hp hz.2
    exact ⟨u, val_zip (of_decide_eq_true h.2.2.1) hz.1 hu, e⟩
theorem eqs_rp {o' : Sr} (nl : ∀ p, ¬ o.L p) (nl' : ∀ p, ¬ o'.L p) : ∀ {n : Nat} {ds : List B} {xs ys : List V}, finsB n ds = true → Rps K Z o H ds xs → Rps K Z' o' H ds ys → Paired (G3.EqW K H n) xs ys
  | n, [], xs, ys, _, r1, r2 => by rw [rps_nil.mp r1, rps_nil.mp r2]; exact .nil
  | n, d :: ds, xs, ys, h, r1, r2 => by
    rw [finsB, Bool.and_eq_true] at h
    obtain ⟨x, r, rfl, a1, a2⟩ := rps_cons.mp r1
    obtain ⟨y, r', rfl, b1, b2⟩ := rps_cons.mp r2
    exact .cons (eq_rp nl nl' h.1 a1 b1) (eqs_rp nl nl' h.2 a2 b2)
end
end
end BV
set_option Elab.async false
set_option linter.all false
set_option maxRecDepth 100000
set_option maxHeartbeats 4000000
/-! by value: defs that raise, and what is caught -/
namespace BV
open PySem PySem.Spec PyProof.Rows L2 G0
section
variable {G : DK} {K : PySem.W.Frag} {W : Wd} {Γ : List Cell} {σ : L2.St} {H H' H1 : Hp} {Post P : B → Prop} {te ta tb : TE} {t tr : TA} {Z Z' : AS} {o : Sr} {t1 t2 : TS} {e : En}
/-! ### what a def lets out -/
def xOut (E : XK) (C : Addr) (f : Option Str) (H0 : Hp) (v : V) (H' : Hp) : Prop := match f with
  | none => E (.ref C) none H'
  | some f => ∀ d, H0 d = none → H' d = some (.xd [(f, v)]) → E (.ref C) (some d) H'
/-- where errors of the classes xs go to E -/
def DK.wx (G : DK) (K : PySem.W.Frag) (xs : List (Addr × Option Str)) (XP : Addr → B → Prop) (E : XK) : DK := { G with wok := fun HX ZX o => ∀ C f, (C, f) ∈ xs → ∀ (b : B) (v : V) (H' : Hp), XP C b → Kp o HX H' → (∀ st cl, o.s st cl → G.D H' st cl) → Rp K ZX o H' b v → xOut E C f HX v H' }
variable {xs : List (Addr × Option Str)} {XP : Addr → B → Prop} {E : XK}
theorem callW {Wp : List B → (B → Prop) → Prop} {E' : XK} (h : bwA (G.wx K xs XP E) K t Γ fun bs => Wp bs Post) : bwE (G.wx K xs XP E) K (tCall (SpB G K Wp) [] E' t) Γ Post := call (G := G.wx K xs XP E) h
instance st_callW {Wp : List B → (B → Prop) → Prop} {E' : XK} : BVSt (bwE (G.wx K xs XP E) K (tCall (SpB G K Wp) [] E' t) Γ Post) (bwA (G.wx K xs XP E) K t Γ fun bs => Wp bs Post) := ⟨fun h => callW h⟩
theorem callLoW {Wp : List B → (B → Prop) → Prop} {E' : XK} (h : bwA (G.wx K xs XP E) K t Γ fun bs => Wp bs Post) : bwE (G.wx K xs XP E) K (tCall (SpB G.lo K Wp) [] E' t) Γ Post := callLo (G := G.wx K xs XP E) h
instance st_callLoW {Wp : List B → (B → Prop) → Prop} {E' : XK} : BVSt (bwE (G.wx K xs XP E) K (tCall (SpB G.lo K Wp) [] E' t) Γ Post) (bwA (G.wx K xs XP E) K t Γ fun bs => Wp bs Post) := ⟨fun h => callLoW h⟩
/-! ### raise -/
end
end BV
set_option Elab.async false
set_option linter.all false
set_option maxRecDepth 100000
set_option maxHeartbeats 4000000
/-! a head's Hook by names, for laws read by value -/
namespace G9
open PySem PySem.Spec PyProof.Rows L2 He
/-! ### defs -/
theorem FnQ.get {K : PySem.W.Frag} {d : FnQ} (e : fnQ K (d.addr K) = d.val) (c : d.ok K = true) : PySem.W.keepIn K (.ref (d.addr K)) = true ∧ ∃ (oc : Value) (od : Option Addr) (kV doc pm : Value) (an : Option Addr) (cdv ct : Value) (osl : Array (Option Value)) (cl : List (Str × Addr)),
    cl.map (·.1) = d.clo ∧ K.lookup (d.addr K) = some ⟨oc, od, .func (PySem.W.fnX d.name d.qual d.params d.body d.scope cl .none kV doc pm an cdv ct), osl⟩ ∧ PySem.W.codeIn K cdv d.qual = true := by
  obtain ⟨kp, c2⟩ := ba c
  refine ⟨kp, ?_⟩
  unfold fnQ at e
  cases q : K.lookup (d.addr K) with
  | none =>
    rw [q] at c2
    cases c2
  | some o =>
    obtain ⟨oc, od, dt, osl⟩ := o
    rw [q] at c2 e
    cases dt with
    | func fd =>
      obtain ⟨n1, n2, n3, n4, n5, n6, n7, n8, n9, n10, n11, n12, n13, n14, n15⟩ := fd
      have e2 : (some (n1, n2, n3, n4, n5, n6, n7.map (·.1), n15) : FnS) = some (d.name, d.qual, d.params, .stmts d.body, d.scope, mainGlobals, d.clo, builtinsNs) := e
      simp only [Option.some.injEq, Prod.mk.injEq] at e2
      obtain ⟨h1, h2, h3, h4, h5, h6, h7, h8⟩ := e2
      have c3 : (PySem.W.codeIn K n13 d.qual && noneV n8) = true := c2
      obtain ⟨k1, k2⟩ := ba c3
      cases n8 with
      | none =>
        subst h1 h2 h3 h4 h5 h6 h8
        exact ⟨oc, od, n9, n10, n11, n12, n13, n14, osl, n7, h7, rfl, k1⟩
      | _ => cases k2
    | _ => cases c2
/-- a def without a closure -/
theorem FnQ.fun0 {K : PySem.W.Frag} {d : FnQ} {st : Stmt} (e : fnQ K (d.addr K) = d.val) (c : d.ok K = true) (hc : d.clo = []) (h1 : d.params = defArgs st) (h2 : d.body = defBody st) (h3 : d.scope = defScope st) : ∃ fd, L2.Fun K d.name d.qual st (d.addr K) fd := by
  obtain ⟨kp, oc, od, kV, doc, pm, an, cdv, ct, osl, cl, e1, e2, e3⟩ := FnQ.get e c
  rw [hc] at e1
  have e4 : cl = [] := List.map_eq_nil_iff.mp e1
  subst e4
  rw [h1, h2, h3] at e2
  exact ⟨_, ⟨oc, od, kV, doc, pm, an, cdv, ct, osl, rfl, e2, e3⟩, kp⟩
/-! ### written tuples, tables of forms -/
theorem tupA_ok {K : PySem.W.Frag} {t : Addr} {vs : List V} (h : tupA K t vs = true) (H : Hp) : SqT K H t vs := by
  unfold tupA at h
  cases q : K.lookup t with
  | none =>
    rw [q] at h
    cases h
  | some o =>
    obtain ⟨oc, od, dt, osl⟩ := o
    rw [q] at h
    cases oc with
    | type c =>
      cases dt with
      | seq its n =>
        obtain ⟨h1, h2⟩ := ba (show (decide (c = "tuple") && (decide (its.size ≤ sizeLine) && relAll vs its.toList)) = true from h)
        obtain ⟨h3, h4⟩ := ba h2
        exact .inr ⟨_, its, n, q, congrArg Value.type (of_decide_eq_true h1), rfl, of_decide_eq_true h3, relAll_ok h4⟩
      | _ => cases h
    | _ => cases dt <;> cases h
theorem look_mem {z : Str} {fs : List Str} : ∀ {tab : BV.TabS}, tab.lookup z = some fs → (z, fs) ∈ tab
  | [], h => by cases h
  | (a, b) :: r, h => by
    rw [List.lookup_cons] at h
    split at h
    · rename_i e
      rw [← Option.some.inj h, eq_of_beq e]
      exact List.mem_cons_self
    · exact List.mem_cons_of_mem _ (look_mem h)
theorem look_not {z : Str} : ∀ {tab : BV.TabS}, tab.lookup z = none → z ∉ tab.map (·.1)
  | [], _ => by simp
  | (a, b) :: r, h => by
    rw [List.lookup_cons] at h
    split at h
    · cases h
    · rename_i e
      intro hm
      rcases List.mem_cons.mp hm with h1 | h1
      · rw [h1] at e
        simp at e
      · exact look_not h h1
theorem str_key {k z : Str} {t : Tok} (h : k ≠ z) : (Value.str k t).isStr z = false := by
  show (k == z) = false
  exact beq_eq_false_iff_ne.mpr h
theorem find_no {P : Params} {z : Str} : ∀ {es : List DictEntry} {ks : List Str}, es.map He.keyOf = keysIn P ks → z ∉ ks → es.find? (·.key.isStr z) = none ∧ es.any (·.refKey) = false
  | [], [], _, _ => ⟨rfl, rfl⟩
  | [], _ :: _, h, _ => by simp [keysIn] at h
  | _ :: _, [], h, _ => by simp [keysIn] at h
  | e :: es, k :: ks, h, hz => by
    have h1 : He.keyOf e :: es.map He.keyOf = some (k, PyData.keyHash P k) :: keysIn P ks := h
    injection h1 with h2 h3
    rw [List.mem_cons, not_or] at hz
    obtain ⟨i1, i2⟩ := find_no h3 hz.2
    unfold He.keyOf at h2
    obtain ⟨eh, ek, ev⟩ := e
    cases ek with
    | str x t =>
      have e4 : x = k := (Prod.mk.inj (Option.some.inj h2)).1
      subst e4
      refine ⟨?_, ?_⟩
      · rw [List.find?_cons_of_neg (by rw [str_key (Ne.symm hz.1)]; exact Bool.false_ne_true)]
        exact i1
      · rw [List.any_cons, i2]
        rfl
    | _ => cases h2
/-- a table of forms, by its keys and its values -/
theorem tab_ok {K : PySem.W.Frag} {w : World} {mg : Str → Option Value} {x : Str} {tab : BV.TabS} {p : Addr} (hm : mg x = some (.ref p)) (hd : dicW K p = some (keysIn w.params (tab.map (·.1)))) (hv : tabB K p tab = true) : BV.FTS K w mg x tab := by
  obtain ⟨es, n, D⟩ := dicW_ok hd
  refine ⟨p, hm, ⟨es, n, D⟩, fun z => ?_⟩
  have hk : es.toList.map He.keyOf = keysIn w.params (tab.map (·.1)) := by
    unfold dicW at hd
    rw [D.at_] at hd
    have h1 : (match decide ("dict" = "dict") && ((#[] : Array (Option Value)).isEmpty && !(p == sysModules)) with
      | true => some (es.toList.map He.keyOf)
      | false => none) = some (keysIn w.params (tab.map (·.1))) := hd
    rw [D.low] at h1
    exact Option.some.inj h1
  cases e : tab.lookup z with
  | none =>
    show PySem.W.nsIn K p z = some none
    unfold PySem.W.nsIn
    rw [D.at_]
    obtain ⟨i1, i2⟩ := find_no hk (look_not e)
    dsimp only
    rw [i1, i2]
    rfl
  | some fs =>
    have h1 := List.all_eq_true.mp hv (z, fs) (look_mem e)
    have h2 : (match PySem.W.nsIn K p z with
      | some (some (.ref t)) => tupA K t (fs.map V.str)
      | _ => false) = true := h1
    cases e2 : PySem.W.nsIn K p z with
    | none => rw [e2] at h2; cases h2
    | some o =>
      rw [e2] at h2
      cases o with
      | none => cases h2
      | some v =>
        cases v with
        | ref t => exact ⟨t, rfl, fun H => tupA_ok h2 H⟩
        | _ => cases h2
/-! ### an own exception class over another one -/
/-! ### an own class of errors with a field -/
end G9
namespace G17
open PySem PySem.Spec PyProof.Rows L2 He G9
theorem kwFun {K : PySem.W.Frag} {x qual : Str} {st : Stmt} {f : Addr} {fd : FuncData} {kws : List (Str × V)} (F : L2.Fun K x qual st f fd) (h : kwB K f kws = true) : FunD K x qual (defArgs st) (defBody st) (defScope st) [] kws f fd := by
  obtain ⟨⟨oc, od, kV, doc, pm, an, cdv, ct, osl, rfl, lk, hcd⟩, kp⟩ := F
  refine ⟨⟨oc, od, .none, kV, doc, pm, an, cdv, ct, osl, rfl, lk, hcd, .inl ⟨rfl, rfl⟩, ?_⟩, kp⟩
  unfold kwB at h
  rw [lk] at h
  exact kwdB_ok h
end G17
set_option Elab.async false
set_option linter.all false
set_option maxRecDepth 100000
set_option maxHeartbeats 4000000
/-! {**a, k: v}, {**a, **b} -/
set_option Elab.async false
set_option linter.all false
set_option maxRecDepth 100000
set_option maxHeartbeats 4000000
/-! the values of a dict that is keyed by tuples and that nobody else holds: list(f().values()), for x in f().values() -/
set_option Elab.async false
set_option linter.all false
set_option maxRecDepth 100000
set_option maxHeartbeats 4000000
/-! by value: defs that give what is new; instances; starred tuples; dicts that are made of others -/
namespace BV
open PySem PySem.Spec PyProof.Rows L2 G0
section
variable {G G' : DK} {K : PySem.W.Frag} {W : Wd} {Γ : List Cell} {σ : L2.St} {H H' H1 : Hp} {Post P : B → Prop} {te ta tb td ty tk tv : TE} {t tr : TA} {Z Z' : AS} {o : Sr} {t1 t2 : TS} {e : En} {g : TG} {wi : TI} {c : TT} {ws : List Nat} {ks : List Key} {ds : List B}
/-! ### a contract of one mode where another holds -/
theorem LK.lo {H0 H : Hp} {o : Sr} : LK G.lo H0 o H := ⟨fun z => z.elim, fun z => z.elim⟩
/-! ### a def that gives a new list or dict -/
/-! ### the last item of an own list, into a target -/
theorem asgPopG {i : Nat} {ds : List B} {d : B} (h : Γ[i]? = some (.ow (.lst (ds ++ [d])))) (q : bwG G K g d (Γ.set i (.ow (.lst ds))) e.N) : bwS G K (tAsg (tBM0 K "list" rPop (tVar i)) g) Γ e := fun W σ H D E q1 q2 q3 q4 q5 => by
  obtain ⟨p, h1, h2, h3, vs, h4, h5⟩ := E.ow i _ h
  have hl := rps_len h5
  rw [List.length_append, List.length_singleton] at hl
  obtain ⟨v, hv, rv⟩ := rps_at (i := ds.length) (d := d) h5 (by simp)
  have off := off_own (W := W) (H := H) (u := .lst vs.dropLast) h h1
  have hd := rps_take ds.length h5
  rw [List.take_left, ← show vs.length - 1 = ds.length by omega, ← List.dropLast_eq_take] at hd
  have E2 := E.mut (b' := .lst ds) (u := .lst vs.dropLast) h h1 ⟨_, upd_same, hd.off off⟩
  have hzz : ∀ c, ZZ W (Γ.set i (.ow (.lst ds))) σ c → ZZ W Γ σ c := fun c z => by
    rcases z with z | ⟨k, b, k1, k2⟩
    · exact .inl z
    · by_cases hk : i = k
      · subst hk
        exact .inr ⟨i, _, h, k2⟩
      · rw [List.getElem?_set_ne hk] at k1
        exact .inr ⟨k, b, k1, k2⟩
  refine RD.asg (RD.bm0 (RD.var h1 ⟨.inl ⟨rfl, _, SqL.of h4⟩, p, vs, v, rfl, rfl, h4, by rw [← hl]; exact hv, q W σ _ v _ E2 ((rv.off off).less hzz) fun Γ' σ' n E' => q1 _ _ _ n E'⟩))
/-! ### an item of an own list is set -/
/-! ### instances -/
/-- an __init__ that sets these fields to its parameters -/
def SpF (C : Addr) (fs : List Str) : Sp := fun vs H Q _ => ∃ (x dx : Addr) (ws : List V), vs = .ref x :: ws ∧ H x = some (.ins C dx []) ∧ ws.length = fs.length ∧ ∀ H', (∀ b, b ≠ x → H' b = H b) → H' x = some (.ins C dx (fs.zip ws)) → Q .non H'
theorem mkF {C : Addr} {fs : List Str} {E : XK} (h : bwA G K t Γ fun bs => bs.length = fs.length ∧ Post (.obj C fs bs)) : bwE G K (tMake C (SpF C fs) [] E t) Γ Post := fun W σ H Q Ev k =>
  RD.make (h W σ H _ Ev fun bs vs H1 p1 k1 E1 r1 => fun x dx hx hdx hne => by
    refine ⟨x, dx, vs, rfl, upd_same, by rw [← rps_len r1]; exact p1.1, fun H' e1 e2 => ⟨rfl, ?_⟩⟩
    have sm : Same H1 H' := fun b u hb => by
      have b1 := ne_of_none hb hx
      rw [e1 b b1, upd_ne b1, upd_ne (ne_of_none hb hdx)]
      exact hb
    obtain ⟨f1, f2, f3⟩ := E1.fresh hx
    exact k _ _ H' p1.2 (k1.trans (Kp.same sm)) (E1.same sm) (rp_obj.mpr ⟨x, dx, vs, rfl, f2, e2, by rw [← rps_len r1]; exact p1.1.symm, r1.kp E1.zs (Kp.same sm)⟩))
theorem look_zip {f : Str} {d : B} : ∀ {fs : List Str} {ds : List B} {vs : List V}, Rps K Z o H ds vs → (fs.zip ds).lookup f = some d → ∃ v, (fs.zip vs).lookup f = some v ∧ Rp K Z o H d v
  | [], ds, vs, _, e => by simp at e
  | a :: fs, [], vs, _, e => by simp at e
  | a :: fs, b :: ds, vs, r, e => by
    obtain ⟨v, r', rfl, r1, r2⟩ := rps_cons.mp r
    rw [List.zip_cons_cons, List.lookup_cons] at e ⊢
    cases hf : (f == a) with
    | true =>
      rw [hf] at e
      cases e
      exact ⟨v, rfl, r1⟩
    | false =>
      rw [hf] at e
      exact look_zip r2 e
theorem fldO {f : Str} (h : bwE G K te Γ fun x => ∃ C fs ds d, x = .obj C fs ds ∧ Cls K C ∧ NoAttr K C f ∧ (fs.zip ds).lookup f = some d ∧ Post d) : bwE G K (tFld K te f) Γ Post := fun W σ H Q E k =>
  RD.tfld (h W σ H _ E fun x v H1 p k1 E1 r1 => by
    obtain ⟨C, fs, ds, d, rfl, hc, hn, hl, p⟩ := p
    obtain ⟨a, dx, vs, rfl, hz, h1, h2, h3⟩ := rp_obj.mp r1
    obtain ⟨u, e1, e2⟩ := look_zip h3 hl
    exact ⟨a, C, dx, _, u, rfl, h1, hc, hn, e1, k d u H1 p k1 E1 e2⟩)
/-! ### starred -/
/-! ### written tuples -/
theorem cTup {p : Addr} {vs : List V} {ds : List B} (hs : ∀ H, SqT K H p vs) (hr : ∀ (Z : AS) (o : Sr) (H : Hp), Rps K Z o H ds vs) (q : Post (.tup ds)) : bwE G K (tC (.ref p)) Γ Post := fun W σ H Q E k => k _ _ H q Kp.refl E (rp_tup.mpr ⟨p, vs, rfl, .inr hs, hr _ _ _⟩)
/-! ### dicts made of others -/
end
end BV
set_option Elab.async false
set_option linter.all false
set_option maxRecDepth 100000
set_option maxHeartbeats 4000000
/-! by value: locks in their modes; comprehensions with two fors; what is lent for a while -/
namespace BV
open PySem PySem.Spec PyProof.Rows L2 G0
section
variable {G M : DK} {K : PySem.W.Frag} {W : Wd} {Γ : List Cell} {σ : L2.St} {H H' H1 : Hp} {Post P : B → Prop} {te ta tb td ty tk tv : TE} {t tr : TA} {Z Z' : AS} {o : Sr} {t1 t2 : TS} {e : En} {g g1 : TG} {wi wi1 : TI} {tt tt1 c : TT} {ws ws1 : List Nat} {ks : List Key} {ds xs : List B}
/-! ### lent -/
def flatB : B → Bool
  | .non => true | .bl _ => true | .int _ => true | .str _ => true
  | _ => false
/-! ### locks -/
def locked (o : Sr) (p : Addr) : Sr := ⟨o.s, fun q => o.L q ∨ q = p⟩
def frzd (H : Hp) (p : Addr) (od : Obj) (kvs : List (Key × V)) : Hp := upd H p (.frz od (.dK kvs))
/-- what is to be locked, and how the walk goes once it is -/
def Sel (G M : DK) (K : PySem.W.Frag) (wi : TI) (J : List (Key × V) → Addr → Obj → It) (Γ : List Cell) (ks : List Key) (ds : List B) : Prop := ∀ (W : Wd) (σ : L2.St) (H : Hp), Env G K W Γ σ H → ∃ (p : Addr) (vs : List V), H p = some (.dK (ks.zip vs)) ∧ ks.length = vs.length ∧ Rp K (ZZ W Γ σ) W.o H (.dct ks ds) (.ref p) ∧ ¬ W.o.L p ∧
  (∀ (od : Obj) (H0' : Hp), H0' p ≠ none → LK M H0' (locked W.o p) (frzd H p od (ks.zip vs))) ∧ ∀ (od : Obj) (R : It → Hp → Prop), R (J (ks.zip vs) p od) (frzd H p od (ks.zip vs)) → wi σ (frzd H p od (ks.zip vs)) R
/-- what stands at the dict that is read: not locked, so to be locked -/
theorem unl_dK (h2 : Rp K Z o H (.dct ks ds) (.ref p)) (hn : ¬ o.L p) : ∃ vs, H p = some (.dK (ks.zip vs)) ∧ ks.length = vs.length ∧ ¬ Z p ∧ Rps K Z o H ds vs := by
  obtain ⟨q, vs, e, hz, h1, hl, h3⟩ := rp_dct.mp h2
  cases e
  exact ⟨vs, h1.elim id fun z => absurd z.1 hn, hl, hz, h3⟩
theorem lk_lo {H0 H : Hp} {o : Sr} : LK G.lo H0 o H := ⟨fun z => z.elim, fun z => z.elim⟩
/-- by a name; by an item of a tuple -/
def Src (G : DK) (K : PySem.W.Frag) (td : TE) (Γ : List Cell) (ks : List Key) (ds : List B) : Prop := ∀ (W : Wd) (σ : L2.St) (H : Hp), Env G K W Γ σ H → ∃ p : Addr, Rp K (ZZ W Γ σ) W.o H (.dct ks ds) (.ref p) ∧ ∀ (od : Obj) (kvs : List (Key × V)) (Q : VK), H p = some (.dK kvs) → Q (.ref p) (frzd H p od kvs) → td σ (frzd H p od kvs) Q
theorem srcVar {i : Nat} (h : Γ[i]? = some (.sh (.dct ks ds))) : Src G K (tVar i) Γ ks ds := fun W σ H E => by
  obtain ⟨v, h1, h2⟩ := E.sh i _ h
  obtain ⟨p, vs, rfl, _⟩ := rp_dct.mp h2
  exact ⟨p, h2, fun od kvs Q _ q => RD.var h1 q⟩
variable {J : List (Key × V) → Addr → Obj → It}
/-- top mode, nothing known within; top mode, defs that ask for flat locks may be called within; a flat dict -/
theorem selLo {wt : TE → TI} (hU : G.U) (hs : Src G K td Γ ks ds) (hw : ∀ (σ : L2.St) (H : Hp) (R : It → Hp → Prop) (p : Addr) (od : Obj) (kvs : List (Key × V)), td σ H (fun x H' => x = .ref p ∧ H' p = some (.frz od (.dK kvs)) ∧ R (J kvs p od) H') → wt td σ H R) : Sel G G.lo K (wt td) J Γ ks ds := fun W σ H E => by
  obtain ⟨p, h2, q⟩ := hs W σ H E
  have hn := E.lk.1 hU p
  obtain ⟨vs, hp, hl, hz, h3⟩ := unl_dK h2 hn
  exact ⟨p, vs, hp, hl, h2, hn, fun od _ _ => lk_lo, fun od R r => hw _ _ _ _ _ _ (q od _ _ hp ⟨rfl, upd_same, r⟩)⟩
end
end BV
set_option Elab.async false
set_option linter.all false
set_option maxRecDepth 100000
set_option maxHeartbeats 4000000
/-! by value: loops and comprehensions under a lock; comprehensions with two fors -/
namespace BV
open PySem PySem.Spec PyProof.Rows L2 G0
end BV
set_option Elab.async false
set_option linter.all false
set_option maxRecDepth 100000
set_option maxHeartbeats 4000000
/-! by value: walks under a lock, own lists and dicts kept -/
namespace BV
open PySem PySem.Spec PyProof.Rows L2 G0
section
variable {G M : DK} {K : PySem.W.Frag} {W : Wd} {Γ Γ' : List Cell} {σ σ' : L2.St} {H H' H1 : Hp} {Post P : B → Prop} {te ta tb td ty tk tv : TE} {t tr : TA} {Z Z' : AS} {o : Sr} {t1 t2 : TS} {e : En} {g g1 : TG} {wi wi1 : TI} {tt tt1 c : TT} {ws ws1 : List Nat} {ks : List Key} {ds xs : List B} {p : Addr} {od : Obj} {kvs : List (Key × V)}
theorem ow_lock {q : Addr} {b : B} (h : OwAt K Z o H q b) (hp : H p = some (.dK kvs)) (hq : q ≠ p) : OwAt K Z (locked o p) (upd H p (.frz od (.dK kvs))) q b := by
  cases b with
  | lst ds =>
    obtain ⟨vs, h1, h2⟩ := h
    exact ⟨vs, (upd_ne hq).trans h1, Rps.lock hp h2⟩
  | dct ks ds =>
    obtain ⟨vs, h1, hl, h2⟩ := h
    exact ⟨vs, (upd_ne hq).trans h1, hl, Rps.lock hp h2⟩
  | dcT ks ds =>
    obtain ⟨vs, h1, hl, h2⟩ := h
    exact ⟨vs, (upd_ne hq).trans h1, hl, Rps.lock hp h2⟩
  | _ => exact h.elim
theorem ow_unlock {q : Addr} {b : B} (h : OwAt K Z (locked o p) H q b) (hp : H p = some (.frz od (.dK kvs))) (hn : ¬ o.L p) : OwAt K Z o (upd H p (.dK kvs)) q b := by
  have hq : ∀ {u : HO}, H q = some u → (∀ od kvs, u ≠ .frz od (.dK kvs)) → q ≠ p := fun {u} h1 h2 e => by
    rw [e, hp] at h1
    exact h2 od kvs (Option.some.inj h1).symm
  cases b with
  | lst ds =>
    obtain ⟨vs, h1, h2⟩ := h
    exact ⟨vs, (upd_ne (hq h1 fun _ _ z => nomatch z)).trans h1, Rps.unlock hp hn h2⟩
  | dct ks ds =>
    obtain ⟨vs, h1, hl, h2⟩ := h
    exact ⟨vs, (upd_ne (hq h1 fun _ _ z => nomatch z)).trans h1, hl, Rps.unlock hp hn h2⟩
  | dcT ks ds =>
    obtain ⟨vs, h1, hl, h2⟩ := h
    exact ⟨vs, (upd_ne (hq h1 fun _ _ z => nomatch z)).trans h1, hl, Rps.unlock hp hn h2⟩
  | _ => exact h.elim
/-- where one stands while the dict at p is walked; own things stay own -/
def Wd.lki (W : Wd) (p : Addr) (od : Obj) (kvs : List (Key × V)) : Wd := ⟨upd W.H0 p (.frz od (.dK kvs)), W.Z0, locked W.o p, W.T, (p, .frz od (.dK kvs)) :: W.T2.filter (fun q => decide (q.1 ≠ p)), upd W.H0 p (.frz od (.dK kvs)), fun _ => False⟩
theorem Env.lockIn (E : Env G K W Γ σ H) (hd : M.D = G.D) (hw : ∀ H Z o, M.wok H Z o) (hp : H p = some (.dK kvs)) (hz : ¬ ZZ W Γ σ p) (hl : LK M (upd W.H0 p (.frz od (.dK kvs))) (locked W.o p) (frzd H p od kvs)) : Env M K (W.lki p od kvs) Γ σ (frzd H p od kvs) := by
  have ps : ¬ isS W.o p := fun z => hz (E.zs p z)
  have pst : ∀ st cl, W.o.s st cl → p ≠ st ∧ p ≠ cl := fun st cl e => ⟨fun z => ps ⟨cl, by rw [z]; exact e⟩, fun z => by
    obtain ⟨xs, q, qq⟩ := G.cl (E.dok st cl e)
    rw [← z, hp] at q
    cases q
    exact qq⟩
  refine ⟨E.len, fun st cl e => by rw [hd]; exact G.off (E.dok st cl e) (upd_ne (pst st cl e).1.symm) (upd_ne (pst st cl e).2.symm), E.src, fun b u hs hb => ?_, fun q hq => ?_, fun b v h => Rp.lock hp (E.tmp b v h), fun i b h => ?_, fun i b h => ?_, E.dis, hl, hw _ _ _, Kp.refl, fun q z => z.elim, fun a u h => ?_⟩
  · unfold frzd
    by_cases q : b = p
    · subst q
      have hb' : upd W.H0 b (.frz od (.dK kvs)) b = some u := hb
      rw [upd_same] at hb' ⊢
      exact hb'
    · have hb' : upd W.H0 p (.frz od (.dK kvs)) b = some u := hb
      rw [upd_ne q] at hb' ⊢
      exact E.kp b u hs hb'
  · unfold frzd
    by_cases e : q = p
    · rw [e, upd_same]
      exact fun z => nomatch z
    · rw [upd_ne e]
      exact E.zt q hq
  · obtain ⟨v, a1, a2⟩ := E.sh i b h
    exact ⟨v, a1, Rp.lock hp a2⟩
  · obtain ⟨q, a1, a2, a3, a4⟩ := E.ow i b h
    have hq : q ≠ p := fun e => hz (.inr ⟨i, b, h, by rw [← e]; exact a1⟩)
    exact ⟨q, a1, (upd_ne hq).trans a2, a3, ow_lock a4 hp hq⟩
  · rcases List.mem_cons.mp h with h | h
    · cases h
      exact ⟨upd_same, hz⟩
    · obtain ⟨h1, h2⟩ := List.mem_filter.mp h
      have hn : a ≠ p := of_decide_eq_true h2
      exact ⟨(upd_ne hn).trans (E.tm2 a u h1).1, (E.tm2 a u h1).2⟩
theorem Env.lockAt (E' : Env M K (W.lki p od kvs) Γ' σ' H') : H' p = some (.frz od (.dK kvs)) := (E'.tm2 _ _ List.mem_cons_self).1
theorem Env.lockOut (E : Env G K W Γ σ H) (hd : M.D = G.D) (hp : H p = some (.dK kvs)) (hn : ¬ W.o.L p) (E' : Env M K (W.lki p od kvs) Γ' σ' H') : Env G K W Γ' σ' (upd H' p (.dK kvs)) := by
  obtain ⟨hp', hz⟩ := E'.tm2 p (.frz od (.dK kvs)) List.mem_cons_self
  have hz : ¬ ZZ W Γ' σ' p := hz
  have ps : ¬ isS W.o p := fun z => hz (E'.zs p z)
  have pst : ∀ st cl, W.o.s st cl → p ≠ st ∧ p ≠ cl := fun st cl e => ⟨fun z => ps ⟨cl, by rw [z]; exact e⟩, fun z => by
    obtain ⟨xs, q, qq⟩ := M.cl (E'.dok st cl e)
    rw [← z, hp'] at q
    cases q
    exact qq⟩
  have kp' : ∀ b u, b ≠ p → ¬ isS W.o b → W.H0 b = some u → H' b = some u := fun b u n hs hb => E'.kp b u hs ((upd_ne n).trans hb)
  refine ⟨E'.len, fun st cl e => G.off (by have := E'.dok st cl e; rw [hd] at this; exact this) (upd_ne (pst st cl e).1.symm) (upd_ne (pst st cl e).2.symm), E'.src, fun b u hs hb => ?_, fun q hq => ?_, fun b v h => Rp.unlock hp' hn (E'.tmp b v h), fun i b h => ?_, fun i b h => ?_, E'.dis, ⟨E.lk.1, fun u q hq => ?_⟩, E.wok, E.kx, E.zx, fun a u h => ?_⟩
  · by_cases q : b = p
    · subst q
      rw [upd_same, ← hp]
      exact E.kp b u hs hb
    · rw [upd_ne q]
      exact kp' b u q hs hb
  · by_cases e : q = p
    · rw [e, upd_same]
      exact fun z => nomatch z
    · rw [upd_ne e]
      exact E'.zt q hq
  · obtain ⟨v, a1, a2⟩ := E'.sh i b h
    exact ⟨v, a1, Rp.unlock hp' hn a2⟩
  · obtain ⟨q, a1, a2, a3, a4⟩ := E'.ow i b h
    have hq : q ≠ p := fun e => hz (.inr ⟨i, b, h, by rw [← e]; exact a1⟩)
    have a2' : upd W.H0 p (.frz od (.dK kvs)) q = none := a2
    rw [upd_ne hq] at a2'
    exact ⟨q, a1, a2', a3, ow_unlock a4 hp' hn⟩
  · obtain ⟨b1, b2, od', kv', b3, b4⟩ := E.lk.2 u q hq
    have hqp : q ≠ p := fun e => hn (by rw [← e]; exact hq)
    cases e0 : W.H0 q with
    | none => exact absurd e0 b1
    | some z =>
      have e1 := E.kp q z b2 e0
      rw [b3] at e1
      cases e1
      exact ⟨(fun z => nomatch z), b2, od', kv', (upd_ne hqp).trans (kp' q _ hqp b2 e0), b4⟩
  · by_cases e : a = p
    · subst e
      obtain ⟨a1, _⟩ := E.tm2 a u h
      rw [hp] at a1
      exact ⟨by rw [upd_same]; exact a1, hz⟩
    · obtain ⟨a1, a2⟩ := E'.tm2 a u (List.mem_cons_of_mem _ (List.mem_filter.mpr ⟨h, decide_eq_true e⟩))
      exact ⟨(upd_ne e).trans a1, a2⟩
theorem Fin.lockOut (E : Env G K W Γ σ H) (hd : M.D = G.D) (hp : H p = some (.dK kvs)) (hz : ¬ ZZ W Γ σ p) (hn : ¬ W.o.L p) {b : B} {v : V} (F : Fin M K (W.lki p od kvs) H' b v) : H' p = some (.frz od (.dK kvs)) ∧ Fin G K W (upd H' p (.dK kvs)) b v := by
  obtain ⟨f1, f2, f3⟩ := F
  have ps : ¬ isS W.o p := fun z => hz (E.zs p z)
  have hp' : H' p = some (.frz od (.dK kvs)) := f1 p _ ps upd_same
  have pst : ∀ st cl, W.o.s st cl → p ≠ st ∧ p ≠ cl := fun st cl e => ⟨fun z => ps ⟨cl, by rw [z]; exact e⟩, fun z => by
    obtain ⟨xs, q, qq⟩ := M.cl (f2 st cl e)
    rw [← z, hp'] at q
    cases q
    exact qq⟩
  refine ⟨hp', fun b u hs hb => ?_, fun st cl e => G.off (by have := f2 st cl e; rw [hd] at this; exact this) (upd_ne (pst st cl e).1.symm) (upd_ne (pst st cl e).2.symm), Rp.unlock hp' hn f3⟩
  by_cases q : b = p
  · subst q
    rw [upd_same, ← hp]
    exact E.kp b u hs hb
  · rw [upd_ne q]
    exact f1 b u hs ((upd_ne q).trans hb)
/-! ### comprehensions -/
/-! ### for -/
theorem for_go {J : It} {tm : List (B × V)} {t2 : List (Addr × HO)} {D : Ends} {I : Nat → List Cell → Prop} {R : B → Prop} {N : List Cell → Prop} (E1 : Env G K W Γ σ H1) (htm : ∀ b v, (b, v) ∈ tm → Rp K (ZZ W Γ σ) W.o H1 b v) (ht2 : ∀ a u, (a, u) ∈ t2 → H1 a = some u ∧ ¬ ZZ W Γ σ a) (wk : WkI K W.o J tm t2 ds)
    (i0 : I 0 Γ) (step : ∀ k d Γ', ds[k]? = some d → I k Γ' → bwG G K g d Γ' fun g' => bwS G K t1 g' ⟨I (k + 1), R, N, I (k + 1), fun _ => False⟩)
    (q1 : ∀ (Γ' : List Cell) (σ' : L2.St) (H' : Hp), (I ds.length Γ' ∨ N Γ') → Env G K W Γ' σ' H' → D.nx σ' H') (q2 : ∀ (b : B) (v : V) (H' : Hp), R b → Fin G K W H' b v → D.rt v H') :
    ∃ Wf : Nat → Nat → L2.St → Hp → Prop, (∃ m, Wf 0 m σ H1) ∧ ∀ i m σ H, Wf i m σ H → (J.stop i H ∧ D.nx σ H) ∨ (J.go i H ∧ ∃ N : L2.St → Hp → Prop, (∀ σ' H', N σ' H' → ∃ m', m' < m ∧ Wf (i + 1) m' σ' H') ∧ ∀ x H', J.yld i H x H' → g x σ H' fun σ2 H2 => t1 { D with nx := N, ct := N, bk := D.nx } σ2 H2) := by
  refine ⟨fun i m σ' H' => m = ds.length - i ∧ i ≤ ds.length ∧ ∃ Γ', I i Γ' ∧ Env G K ((W.keep2 t2).keep tm) Γ' σ' H', ⟨ds.length, rfl, Nat.zero_le _, Γ, i0, (E1.keep2 ht2).keep htm⟩, fun i m σ' H' hI => ?_⟩
  obtain ⟨rfl, hi, Γ', hI, E'⟩ := hI
  have tm' : ∀ b v, (b, v) ∈ tm → Rp K (ZZ ((W.keep2 t2).keep tm) Γ' σ') W.o H' b v := fun b v hb => E'.tmp b v (List.mem_append_left _ hb)
  have t2' : ∀ a u, (a, u) ∈ t2 → H' a = some u := fun a u ha => (E'.tm2 a u (List.mem_append_left _ ha)).1
  rcases Nat.lt_or_ge i ds.length with hlt | hge
  · refine .inr ⟨wk.go _ _ _ tm' t2' hlt, fun σ2 H2 => ∃ Γ2, I (i + 1) Γ2 ∧ Env G K ((W.keep2 t2).keep tm) Γ2 σ2 H2, fun σ2 H2 ⟨Γ2, j, E2⟩ => ⟨_, by omega, rfl, hlt, Γ2, j, E2⟩, fun x H2 hy => ?_⟩
    obtain ⟨s2, d, hd, rd⟩ := wk.yld _ _ _ _ _ tm' t2' E'.zz hy hlt
    exact step i d Γ' hd hI ((W.keep2 t2).keep tm) σ' H2 x _ (E'.same s2) rd fun Γ2 σ2 b2 E2 => b2 ((W.keep2 t2).keep tm) σ2 H2 _ E2 (fun Γ3 σ3 H3 n E3 => ⟨Γ3, n, E3⟩) (fun b v H3 r f => q2 b v H3 r f) (fun Γ3 σ3 H3 n E3 => q1 Γ3 σ3 H3 (.inr n) E3.drop.drop2) (fun Γ3 σ3 H3 n E3 => ⟨Γ3, n, E3⟩) (fun b p H3 r f => r.elim)
  · have e1 : i = ds.length := by omega
    subst e1
    exact .inl ⟨wk.stop _ _ _ tm' t2' hge, q1 Γ' σ' H' (.inl hI) E'.drop.drop2⟩
theorem forS {J : List (Key × V) → Addr → Obj → It} (hs : Sel G M K wi J Γ ks ds) (hd : M.D = G.D) (hw : ∀ H Z o, M.wok H Z o)
    (wk : ∀ (o : Sr) (p : Addr) (od : Obj) (kvs : List (Key × V)), kvs.length = ks.length → ks.length = ds.length → WkI K o (J kvs p od) [(.dct ks ds, .ref p)] [(p, .frz od (.dK kvs))] xs)
    (I : Nat → List Cell → Prop) (i0 : I 0 Γ) (step : ∀ k d Γ', xs[k]? = some d → I k Γ' → bwG M K g d Γ' fun g' => bwS M K t1 g' ⟨I (k + 1), e.R, e.N, I (k + 1), fun _ => False⟩) (done : ∀ Γ', I xs.length Γ' → e.N Γ') :
    bwS G K (tLock (tFor wi g t1)) Γ e := fun W σ H D E q1 q2 q3 q4 q5 => by
  obtain ⟨p, vs, hp, hl, h2, hn, hk, hwalk⟩ := hs W σ H E
  have hz : ¬ ZZ W Γ σ p := by
    obtain ⟨_, _, e, z, _⟩ := rp_dct.mp h2
    cases e
    exact z
  have hds : ks.length = ds.length := by
    obtain ⟨_, vs', _, _, _, a, b⟩ := rp_dct.mp h2
    rw [a, rps_len b]
  refine ⟨p, _, hp, trivial, fun od => ?_⟩
  unfold tFor
  refine hwalk od _ ?_
  have E1 := E.lockIn (M := M) (od := od) hd hw hp hz (hk od _ (by rw [upd_same]; exact fun z => nomatch z))
  refine for_go (N := e.N) (R := e.R) (tm := [(.dct ks ds, .ref p)]) (t2 := [(p, .frz od (.dK (ks.zip vs)))]) E1 (fun b v hb => ?_) (fun a u ha => ?_) (wk _ p od _ (zip_len hl) hds) i0 step (fun Γ' σ' H' hN E' => ?_) (fun b v H' r f => ?_)
  · rw [List.mem_singleton] at hb
    cases hb
    exact Rp.lock hp h2
  · rw [List.mem_singleton] at ha
    cases ha
    exact ⟨upd_same, hz⟩
  · exact ⟨E'.lockAt, q1 _ _ _ (hN.elim (done Γ') id) (E.lockOut hd hp hn E')⟩
  · obtain ⟨a1, a2⟩ := Fin.lockOut E hd hp hz hn f
    exact ⟨a1, q2 b v _ r a2⟩
end
end BV
set_option Elab.async false
set_option linter.all false
set_option maxRecDepth 100000
set_option maxHeartbeats 8000000
/-! sorted(set(xs)), xs a list of texts; get with a default of a written dict -/
namespace G12
open PySem PySem.Spec PyProof.Rows L2
/-- the members of a row, each once -/
def uniq (xs : List Str) : List Str := G2.met (fun i => xs.getD i Str.empty) xs.length
end G12
set_option Elab.async false
set_option linter.all false
set_option maxRecDepth 100000
set_option maxHeartbeats 4000000
/-! for i, x in enumerate(t), t a tuple -/
namespace G13
open PySem PySem.Spec PyProof.Rows L2
abbrev itO (l : Addr) : Obj := { cls := .type "tuple_iterator", data := .fields #[.ref l, .int 0 0] }
theorem meetsT {v : Value} {o : Obj} {H : Heap → Prop} (B : Begins v o H) :
    Meets (Builtin.«enumerate.__new__» ⟨[.type "enumerate", v], []⟩) (fun _ R s => H s.heap ∧
      R (.ok (.ret (.ref (s.heap.push o).objs.size))) { s with heap := (s.heap.push o).push { cls := .type "enumerate", data := .fields #[.none, .bool false, .ref s.heap.objs.size, rawInt 0, .none, .none] } }) :=
  .of_wp fun prog w A R s h => by
    obtain ⟨hp, g, d, tk, os⟩ := s
    obtain ⟨h1, h⟩ := h
    have sub1 := sub_enumerate
    have go : ∀ {A' : Around} {E : Value → Shared → Prop} {Q : Value → Shared → Prop}, Q (.ref hp.objs.size) ⟨hp.push o, g, d, tk, os⟩ → wpAny (model prog w) A' (pyIter v) Q E ⟨hp, g, d, tk, os⟩ := fun q => B.iter prog w _ _ ⟨hp, g, d, tk, os⟩ _ h1 q
    wp_walk using go
    refine wpAny_stack_any fun st => wpAny_pure ?_
    split
    · rename_i c _ _ _ _ _
      cases (c == Value.type "enumerate") <;> (wp_walk using go; exact ⟨_, rfl, h⟩)
    · wp_walk using go
      exact ⟨_, rfl, h⟩
section
variable {prog : Program} {w : World} {A : Around} {E : Value → Shared → Prop} {s : Shared}
theorem makeT {v : Value} {o : Obj} {H : Heap → Prop} {Q : Value → Shared → Prop} (B : Begins v o H) (h1 : H s.heap)
    (h : ∀ h', IsEnum h' (s.heap.objs.size + 1) s.heap.objs.size 0 .none → h'.get? s.heap.objs.size = some o → h'.objs.size = s.heap.objs.size + 2 → (∀ b o, s.heap.get? b = some o → h'.get? b = some o) → Q (.ref (s.heap.objs.size + 1)) { s with heap := h' }) :
    wpAny (model prog w) A (call (.type "enumerate") [v]) Q E s := by
  refine callType_new F.called_enumerate (by decide) (F.typeCall_enumerate_1 _) (F.newCall_enumerate_1 _) (fun obj => F.args_object_init_2 obj _) F.entry_enumerate_new (meetsT B) ⟨h1, ?_⟩
  have hz : (s.heap.push o).objs.size = s.heap.objs.size + 1 := Heap.size_push ..
  show _ ∧ _
  rw [hz]
  have he : IsEnum ((s.heap.push o).push { cls := .type "enumerate", data := .fields #[.none, .bool false, .ref s.heap.objs.size, rawInt 0, .none, .none] }) (s.heap.objs.size + 1) s.heap.objs.size 0 .none := by
    have e := Heap.get?_push_size (s.heap.push o) (o := { cls := .type "enumerate", data := .fields #[.none, .bool false, .ref s.heap.objs.size, rawInt 0, .none, .none] }) rfl
    rw [hz] at e
    exact e
  exact ⟨⟨_, he, rfl⟩, h _ he (Heap.get?_push_of_some _ (Heap.get?_push_size _ B.free)) (by rw [Heap.size_push, hz]) fun b o x => Heap.get?_push_of_some _ (Heap.get?_push_of_some _ x)⟩
end
/-- the tuple at a, each item in a new pair -/
def ItEt (K : PySem.W.Frag) (a : Addr) : It :=
  ⟨fun i H => ∃ (xs : List V) (x : V), SqT K H a xs ∧ xs[i]? = some x, fun i H v H' => ∃ T x, v = .ref T ∧ H T = none ∧ H' = upd H T (.tup [.int (i : Nat), x]) ∧ ∀ xs, SqT K H a xs → xs[i]? = some x, fun i H => ∃ xs : List V, SqT K H a xs ∧ xs.length ≤ i⟩
theorem turnT {P : Program} {w : World} {K : PySem.W.Frag} {elts : List Expr} {kk : Nat} {tpos : Pos} (a e it : Addr) :
    Turn P w K (.Tuple elts kk tpos) (ItEt K a) [e, it] e (fun i h => (∃ old, IsEnum h e it ((i : Nat) : Int) old) ∧ h.IsTupleIter it a i ∧ e ≠ it) where
  mem := by simp
  obj := fun i h st b hb => by
    obtain ⟨⟨old, he⟩, ⟨o, ho, hc, hd⟩, _⟩ := st
    have e' : b = e ∨ b = it := by simpa using hb
    rcases e' with z | z
    · rw [z]; exact ⟨_, he, fun v q => nomatch q⟩
    · rw [z]; exact ⟨o, ho, fun v q => by rw [hd] at q; cases q⟩
  keep := fun i h h' st k => by
    obtain ⟨⟨old, he⟩, hi, hne⟩ := st
    exact ⟨⟨old, k e (by simp) _ he⟩, hi.at fun o q => k it (by simp) o q, hne⟩
  item := by
    intro X hP hw hK hc i pins s σ H E I hf st hg
    subst hP hw hK
    obtain ⟨⟨old, he⟩, hit, hne⟩ := st
    obtain ⟨xs, x, hq, hx⟩ := hg
    obtain ⟨its, rv, p, hz⟩ := I.tuple hq
    obtain ⟨u, hu, ru⟩ := rv.get hx
    have hel : e < s.heap.objs.size := Heap.lt_size he
    have hil : it < s.heap.objs.size := by obtain ⟨_, q, _⟩ := hit; exact Heap.lt_size q
    have pt : s.heap.IsTuple a its.toArray := p
    have nea : a ≠ e := fun z => by
      obtain ⟨o, ho, hc', _⟩ := pt
      rw [z, show s.heap.get? e = _ from he] at ho
      rw [← Option.some.inj ho] at hc'
      exact absurd (show Value.type "enumerate" = Value.type "tuple" from hc') (by decide)
    have nia : a ≠ it := fun z => by
      obtain ⟨o, ho, hc', _⟩ := pt
      obtain ⟨o2, ho2, hc2, _⟩ := hit
      rw [z, ho2] at ho
      rw [← Option.some.inj ho, hc2] at hc'
      exact absurd hc' (by decide)
    refine wpAny_pyNext_enum_itemD (Draws.tuple (A := X.A.in1) (show X.A.in1.handled = none by have := I.ok.hd hc; simp [this]) it a nia its.toArray) he ⟨hit, pt⟩ (by have := (List.getElem?_eq_some_iff.mp hu).1; simpa using this) hne (by simp; exact ⟨hne, fun z => nea z.symm⟩) fun y h' tk hy ho hs' hT hsz hk => ?_
    have ey : y = u := by
      rw [← Array.getElem?_toList] at hy
      have : its[i]? = some y := by simpa using hy
      rw [hu] at this
      exact (Option.some.inj this).symm
    subst ey
    refine ⟨_, rfl, wpAny_letOwnedTupleGo_enum (s := { s with heap := h', toks := tk + 1 }) ho fun h'' he' sb => ?_⟩
    have hT2 : h''.get? s.heap.objs.size = some { cls := .type "tuple", data := .seq #[.int i tk, y] } := (sb.2 _ (Nat.ne_of_gt hel)).trans hT
    have new : ObjOk X.prog X.w (upd H s.heap.objs.size (.tup [.int (i : Nat), x])) h'' s.heap.objs.size (.tup [.int (i : Nat), x]) :=
      ⟨by show 2 ≤ sizeLine; decide, [.int i tk, y], .cons ⟨_, rfl⟩ (.cons ru .nil), ⟨_, hT2, rfl, _, rfl⟩⟩
    have I1 : Inv X pins σ (upd H s.heap.objs.size (.tup [.int (i : Nat), x])) { s with heap := h'', toks := tk + 1 } :=
      I.turnedNew (ch := [e, it]) (fun b ob hb q => (sb.2 b (fun z => hb (by simp [z]))).trans (hk b ob (fun z => hb (by simp [z])) (fun z => hb (by simp [z])) q)) hf (Nat.le_refl _) new
    refine ⟨.ref s.heap.objs.size, _, I1, rfl, ⟨_, x, rfl, I.hok.fresh (Nat.le_refl _), rfl, fun ys hy => by rw [I.tuple_inj hy hq]; exact hx⟩, ⟨⟨y, ?_⟩, hs'.1.at fun o q => (sb.2 it (Ne.symm hne)).trans q, hne⟩, fun b hb => ?_⟩
    · have e1 : ((i + 1 : Nat) : Int) = (i : Int) + 1 := by omega
      rw [e1]; exact he'
    · have hb' : b < s.heap.objs.size := by
        have e' : b = e ∨ b = it := by simpa using hb
        rcases e' with z | z
        · rw [z]; exact hel
        · rw [z]; exact hil
      rw [upd_ne (Nat.ne_of_lt hb')]
      exact (hf b hb).1
  done := by
    intro X hP hw hK hc i pins s σ H E I hf st hg
    subst hP hw hK
    obtain ⟨⟨old, he⟩, hit, hne⟩ := st
    obtain ⟨xs, hq, hx⟩ := hg
    obtain ⟨its, rv, p, hz⟩ := I.tuple hq
    obtain ⟨f0, f1, f2, f3, f4, f5⟩ := hf it (by simp)
    have hl := rv.length
    have pt : s.heap.IsTuple a its.toArray := p
    have T0 : s.TypeIs (.ref e) "enumerate" := ⟨_, he, rfl⟩
    unfold pyNext
    refine wpAny_bind (wpAny_attempt (wpAny_callSpecial?_slot (name := Str.ofString "__next__") T0 F.slot_enumerate_next (wpAny_call_entry F.slot_enumerate_next T0 F.entry_enumerate_next ?_ (F.args_enumerate_next_1 _))))
    show wpAny _ _ (field (.ref e) 2 >>= _) _ _ _
    refine wpAny_bind (wpAny_field he rfl (x := .ref it) rfl ?_)
    refine wpAny_bind (wpAny_nextOf_tuple_end (I.ok.hd hc) hit pt (by simp; omega) fun h' x he' hx' => ?_)
    obtain ⟨o, ho, hc'⟩ := hx'
    refine wpAny_bind (wpAny_isInstance (T := "StopIteration") (b := true) ⟨o, ho, hc'⟩ isSubtype_stop ?_)
    exact wpAny_pure ⟨rfl, I.turned (t' := s.toks) (fun b o hb q => he' b o hb q) f0 f1 f3 f4 f5⟩
  self := fun A i s Q E st h => by
    obtain ⟨⟨_, he⟩, _⟩ := st
    exact wpAny_pyIter_enum he h
def iEnumT (K : PySem.W.Frag) (ta : TA) : TI := fun σ H R => ta σ H fun vs H1 => ∃ a xs, vs = [.ref a] ∧ SqT K H1 a xs ∧ R (ItEt K a) H1
theorem pi_enumT {X : Cx} {e : Expr} {ta : TA} {p pos tpos : Pos} {elts : List Expr} {kk : Nat} (hg : Gl X "enumerate") (hm : X.mg "enumerate" = none) (ha : PA X [e] ta) (hs : starEach [e] X.env = [(false, eval e X.env)] := by rfl) :
    PI X (.Tuple elts kk tpos) (.Call (.Name "enumerate" p) [e] [] pos) (iEnumT X.K ta) := by
  refine ⟨fun pins s σ H R I h => ?_⟩
  refine Call_ (ld_blt I hg hm boot_enumerate (PyProof.Rows.callWith_type1 (thn (ha.run pos pins s σ H _ I h) fun us s1 ⟨vs, H1, I1, r1, q1⟩ => ?_) hs rfl))
  obtain ⟨a, xs, ex, hq, q⟩ := q1
  subst ex
  cases r1 with
  | cons r rr =>
    cases rr
    cases r
    obtain ⟨its, rv, p', hz⟩ := I1.tuple hq
    have B : Begins (.ref a) (itO a) (fun h => h.IsTuple a its.toArray) := ⟨fun prog w A E s Q h q => wpAny_pyIter_tuple h q, fun h h' x hk => x.at fun o e => hk a o e, rfl⟩
    refine makeT B p' fun h' he hit hsz hk => wpAny_pyIter_enum he ?_
    have I2 : Inv X pins σ H1 { s1 with heap := h' } := I1.kept (t' := s1.toks) hk
    refine ⟨s1.heap.objs.size + 1, [s1.heap.objs.size + 1, s1.heap.objs.size], _, _, H1, rfl, I2, turnT a (s1.heap.objs.size + 1) s1.heap.objs.size, ⟨⟨.none, he⟩, ⟨_, hit, rfl, rfl⟩, Nat.succ_ne_self _⟩, fun b hb => ?_, q⟩
    have hle : s1.heap.objs.size ≤ b := by
      have e' : b = s1.heap.objs.size + 1 ∨ b = s1.heap.objs.size := by simpa using hb
      rcases e' with z | z
      · rw [z]; exact Nat.le_add_right _ _
      · rw [z]; exact Nat.le_refl _
    exact I1.fpOk hle (I1.hok.fresh hle)
end G13
set_option Elab.async false
set_option linter.all false
set_option maxRecDepth 100000
set_option maxHeartbeats 4000000
/-! by value: sets of texts, sorted, written tables, dicts keyed by tuples, enumerate of a tuple -/
namespace BV
open PySem PySem.Spec PyProof.Rows L2 G0
section
variable {G M : DK} {K : PySem.W.Frag} {W : Wd} {Γ Γ' : List Cell} {σ σ' : L2.St} {H H' H1 : Hp} {Post P : B → Prop} {te ta tb td ty tk tv tx : TE} {t tr : TA} {Z Z' : AS} {o : Sr} {t1 t2 : TS} {e : En} {g g1 : TG} {wi wi1 : TI} {tt tt1 c : TT} {ws ws1 : List Nat} {ks : List Key} {ds xs : List B}
/-! ### enumerate(t) -/
/-! ### sets of texts -/
theorem lenSet (h : bwE G K te Γ fun x => ∃ ss : List Str, x = .tup (ss.map B.str) ∧ ss.length ≤ 4000 ∧ Post (.int ((G12.uniq ss).length : Nat))) : bwE G K (tLenSetT K te) Γ Post := fun W σ H Q E k =>
  RD.lset (h W σ H _ E fun x v H1 p k1 E1 r1 => by
    obtain ⟨ss, rfl, hn, p⟩ := p
    obtain ⟨a, vs, rfl, h1, h2⟩ := rp_tup.mp r1
    have := rps_strs h2
    subst this
    exact ⟨a, ss, rfl, h1.sq, hn, k _ _ H1 p k1 E1 (rp_int.mpr rfl)⟩)
def rSortD : List V → Hp → VK → Prop := fun xs H Q => ∃ (a : Addr) (kvs : List (Key × V)) (ks : List Str), xs = [.ref a] ∧ Rd H a (.dK kvs) ∧ kvs.map (·.1) = ks.map Sum.inr ∧ ks.length < 64 ∧ ∀ ys p, ys.Perm ks → sortedS ys = true → H p = none → Q (.ref p) (upd H p (.lst (ys.map V.str)))
theorem call_sortD {X : Cx} (hc : X.calm = true) : CallR X (.builtin "sorted") rSortD := call_sortedD hc
theorem sortedD {ss : List Str} (hn : ss.length < 64) (q : ∀ ys : List Str, ys.Perm ss → sortedS ys = true → Post (.lst (ys.map B.str))) : bwRA G K rSortD [.dct (ss.map Sum.inr) ds] Post := fun W Γ σ H vs Q E r k => by
  obtain ⟨v, r', rfl, r1, r2⟩ := rps_cons.mp r
  obtain rfl := rps_nil.mp r2
  obtain ⟨p, vs, rfl, hz, h1, hl, h2⟩ := rp_dct.mp r1
  refine ⟨p, _, ss, rfl, dct_rd h1, by rw [List.map_fst_zip (by omega)], hn, fun ys l hp hs hl => k _ _ _ (q ys hp hs) (Kp.refl.nw hl) (E.nw hl) (rp_lst.mpr ⟨l, _, rfl, (E.fresh hl).2.1, upd_same, strs_rps⟩)⟩
/-! ### written tables -/
/-- the keys of a written dict of texts -/
def KeyT (K : PySem.W.Frag) (p : Addr) (ns : List Str) : Prop := ∀ z : Str, ∃ r, PySem.W.nsIn K p z = some r ∧ r.isSome = decide (z ∈ ns)
def rInKd (K : PySem.W.Frag) (d : Addr) : R2 := fun x y H Q => ∃ (z : Str) (r : Option Value), x = .str z ∧ y = .ref d ∧ PySem.W.nsIn K d z = some r ∧ Q (.bl r.isSome) H
theorem op_inKd {X : Cx} {d : Addr} {w : World} (hw : X.w = w) (D : KD X.K w d) : OpR X (compareOp .In) (rInKd X.K d) := by
  subst hw
  obtain ⟨es, n, D⟩ := D
  exact op_in_kd D
theorem kin {d : Addr} {ns : List Str} {z : Str} (l : KeyT K d ns) (q : Post (.bl (decide (z ∈ ns)))) : bwR2 G K (rInKd K d) (.str z) (.raw (.ref d)) Post := fun W Γ σ H v u Q E r1 r2 k => by
  rw [rp_str.mp r1, rp_raw.mp r2]
  obtain ⟨r, h1, h2⟩ := l z
  exact ⟨z, r, rfl, rfl, h1, k _ _ H (by rw [h2]; exact q) Kp.refl E (rp_bl.mpr rfl)⟩
abbrev LookS (K : PySem.W.Frag) (p : Addr) (tab : TabS) : Prop := ∀ z : Str, match tab.lookup z with
    | none => PySem.W.nsIn K p z = some none
    | some fs => ∃ t : Addr, PySem.W.nsIn K p z = some (some (.ref t)) ∧ ∀ H, SqT K H t (fs.map V.str)
theorem look_in {z : Str} {β : Type} : ∀ {tab : List (Str × β)}, (tab.lookup z).isSome = decide (z ∈ tab.map (·.1))
  | [] => by simp
  | (a, b) :: r => by
    rw [List.lookup_cons, List.map_cons]
    by_cases e : z = a
    · subst e
      simp
    · rw [show (z == a) = false from beq_eq_false_iff_ne.mpr e]
      have := look_in (z := z) (tab := r)
      rw [this]
      exact decide_eq_decide.mpr (by simp [e])
theorem LookS.keys {p : Addr} {tab : TabS} (l : LookS K p tab) : KeyT K p (tab.map (·.1)) := fun z => by
  have h := l z
  have e := look_in (z := z) (tab := tab)
  cases q : tab.lookup z with
  | none =>
    rw [q] at h e
    exact ⟨none, h, e⟩
  | some fs =>
    rw [q] at h e
    obtain ⟨t, h, _⟩ := h
    exact ⟨_, h, e⟩
/-- d[k], the key is there -/
theorem kitem {w : World} {p : Addr} {tab : TabS} {z : Str} {fs : List Str} (kd : KD K w p) (l : LookS K p tab) (hl : tab.lookup z = some fs) (q : Post (.tup (fs.map B.str))) : bwR2 G K (rIxD K w) (.raw (.ref p)) (.str z) Post := fun W Γ σ H v u Q E r1 r2 k => by
  rw [rp_str.mp r2, rp_raw.mp r1]
  have h := l z
  rw [hl] at h
  obtain ⟨t, h1, h2⟩ := h
  obtain ⟨es, n, D⟩ := kd
  exact ⟨p, z, .ref t, rfl, rfl, ⟨es, n, _, D.at_, D.lit, h1, rfl⟩, k _ _ H q Kp.refl E (rp_tup.mpr ⟨t, _, rfl, .inr h2, strs_rps⟩)⟩
/-! tables of numbers -/
/-! ### a written tuple, by a name of the module -/
theorem gTup {p : Addr} {ss : List Str} (hs : ∀ H, SqT K H p (ss.map V.str)) (q : Post (.tup (ss.map B.str))) : bwE G K (tC (.ref p)) Γ Post := cTup hs (fun _ _ _ => strs_rps) q
end
end BV
set_option Elab.async false
set_option linter.all false
set_option maxRecDepth 100000
set_option maxHeartbeats 4000000
/-! the head: tables of numbers, written tuples -/
set_option Elab.async false
set_option linter.all false
set_option maxRecDepth 100000
set_option maxHeartbeats 4000000
/-! no draws by value: what N-texts ask of F1 -/
namespace SF
open PySem PySem.Spec PyProof.Rows L2 G0
abbrev Int1 (mg : Str → Option Value) (x : Str) (i : Int) : Prop := ∃ u, mg x = some u ∧ RelV (.int i) u
theorem at0 {x : V} {r : List V} : atI (x :: r) 0 = some x := atI_nat (xs := x :: r) (j := 0) rfl
theorem at1 {x y : V} {r : List V} : atI (x :: y :: r) 1 = some y := atI_nat (xs := x :: y :: r) (j := 1) rfl
theorem at2 {x y z : V} {r : List V} : atI (x :: y :: z :: r) 2 = some z := atI_nat (xs := x :: y :: z :: r) (j := 2) rfl
theorem at3 {x y z u : V} {r : List V} : atI (x :: y :: z :: u :: r) 3 = some u := atI_nat (xs := x :: y :: z :: u :: r) (j := 3) rfl
theorem at4 {x y z u v : V} {r : List V} : atI (x :: y :: z :: u :: v :: r) 4 = some v := atI_nat (xs := x :: y :: z :: u :: v :: r) (j := 4) rfl
def Btw (st : Addr) (H H' : Hp) : Prop := ∀ b u, b ≠ st → H b = some u → H' b = some u
end SF
namespace SF
open PySem PySem.Spec PyProof.Rows L2 G0 BV
open C8 (Cal Mak Met pe_c pe_mk pe_mt pe_mt0 pe_gc)
/-- the built-ins that the law calls -/
structure TxtD (K : PySem.W.Frag) (mg : Str → Option Value) : Prop where
  b_len : mg "len" = none
  b_list : mg "list" = none
  b_int : mg "int" = none
  b_range : mg "range" = none
/-- the state of the draws: the numbers, the next one's place, what is left of one, the seed -/
def D3 (H : Hp) (st cl : Addr) : Prop := ∃ (ns : List Int) (at_ : Nat) (held seed : Int), H st = some (.lst [.ref cl, .int at_, .int held, .int seed]) ∧ H cl = some (.lst (ns.map V.int)) ∧ cl ≠ st ∧ 0 ≤ held ∧ 0 ≤ seed ∧ seed < 2147483647
/-- what stands in an object of kind t that changes: a list of one number; a dict with one truth -/
def Mu (t : Nat) (u : HO) : Prop := (t = 0 ∧ ∃ n : Int, u = .lst [.int n]) ∨ (t = 1 ∧ ∃ (z : Str) (b : Bool), u = .dK [(Sum.inr z, .bl b)])
def G3 : DK where
  D := fun H st cl => (cl.t = 0 → D3 H st cl) ∧ ((∀ t, cl.t = t + 1 → ∃ u, H st = some u ∧ Mu t u) ∧ (∃ ns, H cl.a = some (.lst ns)) ∧ cl.a ≠ st)
  off := fun {H H' st cl} ⟨h, k, ⟨ns, k1⟩, k2⟩ e1 e2 => ⟨fun z => by
    obtain ⟨ns, a, h, s, h1, h2, h3⟩ := h z
    exact ⟨ns, a, h, s, e1.trans h1, e2.trans h2, h3⟩, fun t z => by
    obtain ⟨u, a, b⟩ := k t z
    exact ⟨u, e1.trans a, b⟩, ⟨ns, e2.trans k1⟩, k2⟩
  st := fun {H st cl} ⟨h, k, _, _⟩ z => by
    cases e : cl.t with
    | zero =>
      obtain ⟨_, _, _, _, h1, _⟩ := h e
      rw [z] at h1
      cases h1
    | succ t =>
      obtain ⟨u, a, _⟩ := k t e
      rw [z] at a
      cases a
  cl := fun ⟨_, _, ⟨_, h2⟩, _⟩ => ⟨_, h2, trivial⟩
  ne := fun ⟨_, _, _, h3⟩ => h3
  U := True
end SF
set_option Elab.async false
set_option linter.all false
set_option maxRecDepth 100000
set_option maxHeartbeats 4000000
/-! names of letters; lists of texts -/
namespace RD
open PySem PySem.Spec PyProof.Rows L2 G0
theorem tm1 {r : V → List V → Hp → VK → Prop} {to te : TE} {σ : L2.St} {H : Hp} {Q : VK} (h : to σ H fun x H1 => (∃ a, x = .str a) ∧ te σ H1 fun y H2 => r x [y] H2 Q) : tM1 r to te σ H Q := h
end RD
namespace SF
open PySem PySem.Spec PyProof.Rows L2 G0
/-! ### names of letters -/
theorem letter_ok : ∀ c ∈ (List.range 26).map (97 + ·), Unicode.isAlpha c = true ∧ decide (c < 128) = true ∧ Unicode.isLower c = true ∧ (Unicode.isUpper c || Unicode.isTitle c) = false := by decide +kernel
theorem name_of {l : List Nat} (h1 : 1 ≤ l.length) (h8 : l.length ≤ 8) (h : ∀ c ∈ l, c ∈ (List.range 26).map (97 + ·)) : nameS ⟨l.toArray⟩ = true := by
  have hl : (⟨l.toArray⟩ : Str).length = l.length := List.size_toArray
  have a1 : Txt.isascii ⟨l.toArray⟩ = true := by
    unfold Txt.isascii
    rw [Array.all_eq_true_iff_forall_mem]
    exact fun c hc => (letter_ok c (h c (by simpa using hc))).2.1
  have a2 : Txt.isalpha ⟨l.toArray⟩ = true := by
    unfold Txt.isalpha
    rw [hl, Bool.and_eq_true]
    refine ⟨decide_eq_true (by omega), ?_⟩
    rw [Array.all_eq_true_iff_forall_mem]
    exact fun c hc => (letter_ok c (h c (by simpa using hc))).1
  have a3 : Txt.islower ⟨l.toArray⟩ = true := by
    unfold Txt.islower
    rw [Bool.and_eq_true]
    refine ⟨?_, ?_⟩
    · rw [← Array.any_toList, List.any_eq_true]
      cases l with
      | nil => simp at h1
      | cons c r => exact ⟨c, by simp, (letter_ok c (h c (by simp))).2.2.1⟩
    · rw [Bool.not_eq_true', ← Array.any_toList, List.any_eq_false]
      exact fun c hc => by
        rw [(letter_ok c (h c (by simpa using hc))).2.2.2]
        exact Bool.false_ne_true
  unfold nameS
  rw [hl, decide_eq_true h8, a1, a2, a3]
  rfl
def abc : Str := "abcdefghijklmnopqrstuvwxyz"
def codes : List Nat := (List.range 26).map (97 + ·)
theorem abc_at : ∀ k : Fin 26, abc.cps.toList[k.val]? = some (97 + k.val) := by decide +kernel
def chars (l : List Nat) : List Str := l.map fun c => ⟨#[c]⟩
theorem joinL_one : ∀ l : List Nat, TL.joinL [] (l.map fun c => [c]) = l
  | [] => rfl
  | [c] => rfl
  | c :: d :: r => by
    show [c] ++ ([] ++ TL.joinL [] ((d :: r).map fun c => [c])) = _
    rw [joinL_one (d :: r)]
    rfl
theorem join_chars (l : List Nat) : Txt.join ("" : Str) (chars l) = ⟨l.toArray⟩ := by
  have e := SX.join_S [] (l.map fun c => [c])
  rw [joinL_one] at e
  have e2 : chars l = (l.map fun c => [c]).map SX.S := by
    unfold chars
    rw [List.map_map]
    rfl
  rw [e2]
  exact e
theorem inV_str {x : Str} : ∀ {zs : List Str}, inV (.str x) (zs.map V.str) = decide (x ∈ zs)
  | [] => rfl
  | z :: zs => by
    have e : inV (.str x) ((z :: zs).map V.str) = (eqV (.str z) (.str x) || inV (.str x) (zs.map V.str)) := rfl
    have e2 : eqV (.str z) (.str x) = decide (z = x) := rfl
    rw [e, inV_str (zs := zs), e2, ← Bool.decide_or]
    exact decide_eq_decide.mpr ⟨fun h => List.mem_cons.mpr (h.imp Eq.symm id), fun h => (List.mem_cons.mp h).imp Eq.symm id⟩
theorem sub_len {α : Type} [BEq α] [LawfulBEq α] : ∀ {l m : List α}, l.Nodup → (∀ x ∈ l, x ∈ m) → l.length ≤ m.length
  | [], m, _, _ => Nat.zero_le _
  | a :: l, m, h, s => by
    obtain ⟨h1, h2⟩ := List.nodup_cons.mp h
    have hm : a ∈ m := s a (List.mem_cons_self ..)
    have e := List.length_erase_of_mem hm
    have := sub_len (m := m.erase a) h2 fun x hx => (List.mem_erase_of_ne (fun z : x = a => h1 (by rw [← z]; exact hx))).mpr (s x (List.mem_cons_of_mem _ hx))
    have p := List.length_pos_of_mem hm
    rw [List.length_cons]
    omega
/-- of 26 letters one is none of five words -/
theorem some_left {zs : List Str} (h : zs.length < 26) : (chars codes).filter (fun x => !decide (x ∈ zs)) ≠ [] := fun e => by
  have n : (chars codes).Nodup := by decide +kernel
  have l := sub_len n (m := zs) fun x hx => by
    have := List.filter_eq_nil_iff.mp e x hx
    simpa using this
  have : (chars codes).length = 26 := rfl
  omega
theorem one_name : ∀ x ∈ chars codes, nameS x = true ∧ x.length ≤ 8 := by decide +kernel
theorem abc_size : abc.cps.size = 26 := by decide +kernel
theorem abc_one {i c : Nat} (hi : i < 26) (h : abc.cps[i]? = some c) : (chars codes)[i]? = some ⟨#[c]⟩ := by
  have e := abc_at ⟨i, hi⟩
  rw [Array.getElem?_toList, h] at e
  obtain rfl := Option.some.inj e
  unfold chars codes
  rw [List.getElem?_map, List.getElem?_map, List.getElem?_range hi]
  rfl
theorem flat_strs : ∀ zs : List Str, (zs.map V.str).all flatV = true
  | [] => rfl
  | _ :: r => flat_strs r
end SF
set_option Elab.async false
set_option linter.all false
set_option maxRecDepth 100000
set_option maxHeartbeats 4000000
/-! the other draw: _law_begin, _law_load, _law_draw -/
namespace RD
open PySem PySem.Spec PyProof.Rows L2 G0
/-- an if whose two ways meet: what follows is said once -/
theorem ifJ2 {c : TT} {t1 : TS} {σ : L2.St} {H : Hp} {nx : L2.St → Hp → Prop} {rt : VK} {bk ct : L2.St → Hp → Prop} (Pd : L2.St → Hp → Prop) (hrest : ∀ σ' H', Pd σ' H' → nx σ' H') (h : ∀ nx' : L2.St → Hp → Prop, (∀ σ' H', Pd σ' H' → nx' σ' H') → tIfS c t1 tNext ⟨nx', rt, bk, ct⟩ σ H) : tIfS c t1 tNext ⟨nx, rt, bk, ct⟩ σ H := h nx hrest
end RD
namespace SF
open PySem PySem.Spec PyProof.Rows L2 G0
open C8 (Cal Mak Met pe_c pe_mk pe_mt pe_mt0 pe_gc)
theorem Btw.refl {st : Addr} {H : Hp} : Btw st H H := fun _ _ _ h => h
theorem Btw.trans {st : Addr} {H H' H2 : Hp} (a : Btw st H H') (b : Btw st H' H2) : Btw st H H2 := fun c u n h => b c u n (a c u n h)
theorem Btw.of {st : Addr} {H H' : Hp} (e : Same H H') : Btw st H H' := fun b u _ h => e b u h
theorem none_of {H H1 : Hp} {L : Addr} (s : Same H H1) (n : H1 L = none) : H L = none := by
  cases e : H L with
  | none => rfl
  | some u => rw [s _ _ e] at n; cases n
structure TxtL (K : PySem.W.Frag) (mg : Str → Option Value) : Prop extends TxtD K mg where
  b_abs : mg "abs" = none
  b_max : mg "max" = none
/-- the state of the draw: the numbers, the next one's place, what is left of one, the seed, how often it is taken -/
structure D2 (H : Hp) (st cl : Addr) (ns : List Int) : Prop where
  ex : ∃ (at_ : Nat) (held seed left : Int), H st = some (.lst [.ref cl, .int at_, .int held, .int seed, .int left]) ∧ H cl = some (.lst (ns.map V.int)) ∧ cl ≠ st ∧ 0 ≤ held ∧ 0 ≤ seed ∧ seed < 2147483648
theorem D2.same {H H' : Hp} {st cl : Addr} {ns : List Int} (h : D2 H st cl ns) (e : Same H H') : D2 H' st cl ns := by
  obtain ⟨at_, held, seed, left, h1, h2, h3⟩ := h.ex
  exact ⟨at_, held, seed, left, e _ _ h1, e _ _ h2, h3⟩
theorem D2.lst {H : Hp} {st cl : Addr} {ns : List Int} (h : D2 H st cl ns) : ∃ xs, H st = some (.lst xs) := by
  obtain ⟨at_, held, seed, left, h1, _⟩ := h.ex
  exact ⟨_, h1⟩
theorem D2.none {H : Hp} {st cl D : Addr} {ns : List Int} (h : D2 H st cl ns) (n : H D = none) : D ≠ st ∧ D ≠ cl := by
  obtain ⟨at_, held, seed, left, g1, g2, _⟩ := h.ex
  exact ⟨Ne.symm (ne_of_none g1 n), Ne.symm (ne_of_none g2 n)⟩
theorem D2.upd {H : Hp} {st cl D : Addr} {ns : List Int} {o : HO} (h : D2 H st cl ns) (n1 : D ≠ st) (n2 : D ≠ cl) : D2 (upd H D o) st cl ns := by
  obtain ⟨at_, held, seed, left, g1, g2, g3⟩ := h.ex
  exact ⟨at_, held, seed, left, by rw [upd_ne n1.symm]; exact g1, by rw [upd_ne n2.symm]; exact g2, g3⟩
def spLoad : Sp := fun vs H Q _ => ∃ (st cl : Addr) (ns : List Int), vs = [.ref st] ∧ D2 H st cl ns ∧ ∀ (H' : Hp), Btw st H H' → D2 H' st cl ns → Q .non H'
def spDraw2 : Sp := fun vs H Q _ => ∃ (st cl : Addr) (ns : List Int) (many : Nat), vs = [.ref st, .int many] ∧ D2 H st cl ns ∧ 0 < many ∧ many ≤ 1000 ∧ ∀ (k : Nat) (H' : Hp), k < many → Btw st H H' → D2 H' st cl ns → Q (.int k) H'
section
variable {P : Program} {w : World} {K : PySem.W.Frag} {mg : Str → Option Value} {base : Heap}
local macro_rules | `(tactic| walk_at "rd1") => `(tactic| first
  | (with_reducible refine RD.seq ?_) | (with_reducible refine RD.next ?_) | (with_reducible refine RD.ifS ?_) | (with_reducible refine RD.ret ?_) | (with_reducible refine RD.retN ?_) | (with_reducible refine RD.drop ?_) | (with_reducible refine RD.asg ?_) | (with_reducible refine RD.gname ?_)
  | ((with_reducible apply RD.var); exact rfl) | (with_reducible refine RD.c_ ?_) | (with_reducible refine RD.op ?_) | (with_reducible refine RD.un ?_) | (with_reducible refine RD.cb ?_) | (with_reducible refine RD.cons ?_) | (with_reducible refine RD.nil ?_) | (with_reducible refine RD.tup ?_) | (with_reducible refine RD.lst ?_)
  | (with_reducible refine RD.B_ ?_) | (with_reducible refine RD.test ?_) | (with_reducible refine RD.exB ?_) | (with_reducible refine RD.exI ?_) | (with_reducible refine RD.and_ ?_) | (with_reducible refine RD.or_ ?_) | (with_reducible refine RD.not_ ?_) | (with_reducible refine RD.andV ?_) | (with_reducible refine RD.orV ?_) | (with_reducible refine RD.notV ?_) | (with_reducible refine RD.if_ ?_)
  | (with_reducible refine RD.ifT ?_) | (with_reducible refine RD.ifF ?_) | (with_reducible refine RD.ifNT ?_) | (with_reducible refine RD.ifNF ?_) | (with_reducible refine RD.yes ?_) | (with_reducible refine RD.sl ?_) | (with_reducible refine RD.noPart ?_) | (with_reducible refine RD.part ?_) | (with_reducible refine RD.i0 ?_) | (with_reducible refine RD.eqS ?_) | (with_reducible refine RD.eqI ?_) | (with_reducible refine RD.neS ?_) | (with_reducible refine RD.neI ?_)
  | (with_reducible refine RD.isN_n ?_) | (with_reducible refine RD.isN_r ?_) | (with_reducible refine RD.isN_s ?_) | (with_reducible refine RD.isN_b ?_) | (with_reducible refine RD.isN_i ?_) | (with_reducible refine RD.notN_n ?_) | (with_reducible refine RD.notN_r ?_) | (with_reducible refine RD.notN_s ?_)
  | (with_reducible refine RD.call ?_) | (with_reducible refine RD.make ?_) | (with_reducible refine RD.gcons ?_) | (with_reducible refine RD.gnil ?_) | (with_reducible refine RD.bm ?_) | (with_reducible refine RD.bm0 ?_) | (with_reducible refine RD.dget ?_) | (with_reducible refine RD.din ?_) | (with_reducible refine RD.tfld ?_) | (with_reducible refine RD.then_ ?_) | (with_reducible refine RD.chain ?_) | (with_reducible refine RD.itup ?_) | (with_reducible refine RD.ikeys ?_) | (with_reducible refine RD.ivals ?_) | (with_reducible refine RD.iitems ?_) | (with_reducible refine RD.lset ?_) | (with_reducible refine RD.ilist ?_) | ((with_reducible apply RD.aug); exact rfl))
local macro_rules | `(tactic| walk_at "rd") => `(tactic| repeat walk_at "rd1")
theorem sc__law_load : FnScope ["_law_state", "_law_cell", "_law_size"] ["_law_state"] (defScope (topS 72)) := ⟨rfl, rfl, rfl, by decide +kernel, rfl, by decide +kernel, by decide +kernel⟩
theorem ok_load (T : TxtL K mg) {f : Addr} {fd : FuncData} (F : Fun K "_law_load" "_law_load" (topS 72) f fd) : FnOk P w K mg base CX0 1 f fd ["_law_state"] spLoad := by
  refine F.ok sc__law_load (fun vs H Q E h => ?_) (fun cdv A outer s H vs Q E hr h => ?_)
  · obtain ⟨st, cl, ns, rfl, _⟩ := h
    rfl
  obtain ⟨st, cl, ns, rfl, ⟨at_, held, seed, left, hst, hcl, hne, hh0, hs0, hs1⟩, q⟩ := h
  refine ⟨_, (pss_cons (ps_set (i := 1) sc__law_load.nd rfl (Or.inl rfl) pe_int)
      (pss_cons (ps_if (pt_cmpR op_lt (pe_ix (r := rIxL K) ix_list (pv 0) pe_int (fun _ _ => rfl)) (pe_callB (r := SF.rLenQ K) call_lenQ (by rfl) T.b_len PySem.boot_len (pa_cons (pe_ix (r := rIxL K) ix_list (pv 0) pe_int (fun _ _ => rfl)) pa_nil)) (nomark _)) (pss_one (ps_set (i := 1) sc__law_load.nd rfl (Or.inl rfl) (pe_ix (r := rIxL K) ix_list (pe_ix (r := rIxL K) ix_list (pv 0) pe_int (fun _ _ => rfl)) (pe_ix (r := rIxL K) ix_list (pv 0) pe_int (fun _ _ => rfl)) (fun _ _ => rfl)))) pss_nil)
      (pss_cons (ps_set (i := 2) sc__law_load.nd rfl (Or.inl rfl) (pe_op op_add (pe_op op_mul pe_int (pe_callB call_abs (by rfl) T.b_abs (by decide +kernel) (pa_cons (pv 1) pa_nil))) (pe_callTy call_int1 (by rfl) T.b_int (by decide +kernel) (pa_cons (pe_cmpR op_lt (pv 1) pe_int (nomark _)) pa_nil))))
      (pss_cons (ps_asg pe_int (pg_sub (pv 0) pe_int set_list))
      (pss_cons (ps_asg pe_int (pg_sub (pv 0) pe_int set_list))
      (pss_cons (ps_if (pt_cmpR op_ge (pv 2) (pe_op op_pow pe_int pe_int) (nomark _)) (pss_cons (ps_asg (pv 2) (pg_sub (pv 0) pe_int set_list))
      (pss_one (ps_asg pe_int (pg_sub (pv 0) pe_int set_list)))) pss_nil)
      (pss_cons (ps_asg (pe_op op_mod (pe_callTy call_int1 (by rfl) T.b_int (by decide +kernel) (pa_cons (pe_op op_add (pe_op op_add (pe_op op_add (pe_op op_mul (pe_ix (r := rIxL K) ix_list (pv 0) pe_int (fun _ _ => rfl)) pe_int) (pe_op op_mul (pe_op op_mod (pe_callTy call_int1 (by rfl) T.b_int (by decide +kernel) (pa_cons (pv 2) pa_nil)) pe_int) pe_int)) (pe_ix (r := rIxL K) ix_list (pv 0) pe_int (fun _ _ => rfl))) pe_int) pa_nil)) pe_int) (pg_sub (pv 0) pe_int set_list))
      (pss_one (ps_asg (pe_op op_add (pe_ix (r := rIxL K) ix_list (pv 0) pe_int (fun _ _ => rfl)) pe_int) (pg_sub (pv 0) pe_int set_list)))))))))), ?_⟩
  refine RD.seq (RD.asg (RD.c_ (RD.gname (RD.seq ?_))))
  refine RD.ifJ2 (fun σ' H' => H' = H ∧ ∃ c : Int, σ' = [some (.ref st), some (.int c), none]) (fun σ' H1 hP => ?_) (fun nx hrest => ?_)
  · obtain ⟨rfl, c, rfl⟩ := hP
    walk_at "rd"
    refine ⟨c, rfl, ?_⟩
    refine RD.i1 (.inl ⟨by decide, by decide⟩) ?_
    walk_at "rd"
    refine .inr ⟨_, rfl, ?_⟩
    walk_at "rd"
    have hsz : (0 : Int) ≤ 2 * (if c < 0 then -c else c) + (if decide (c < 0) = true then 1 else 0) := by
      split <;> split <;> omega
    generalize 2 * (if c < 0 then -c else c) + (if decide (c < 0) = true then 1 else 0) = z at hsz ⊢
    refine ⟨_, rfl, ⟨st, _, 2, 2, rfl, rfl, hst, rfl, ?_⟩⟩
    dsimp only [List.set]
    refine RD.seq (RD.asg (RD.c_ ?_))
    refine ⟨_, rfl, ⟨st, _, 4, 4, rfl, rfl, upd_same, rfl, ?_⟩⟩
    dsimp only [List.set]
    rw [upd_upd]
    refine RD.seq ?_
    refine RD.ifJ2 (fun σ' H' => σ' = [some (.ref st), some (.int c), some (.int z)] ∧ ∃ (held' left' : Int), Btw st H1 H' ∧ H' st = some (.lst [.ref cl, .int at_, .int held', .int seed, .int left']) ∧ 0 ≤ held') (fun σ' H2 hP => ?_) (fun nx hrest => ?_)
    · obtain ⟨rfl, held', left', hb, hst1, hh1⟩ := hP
      walk_at "rd"
      refine RD.ixL (.inl (.inl hst1)) at3 ?_
      walk_at "rd"
      refine RD.i1 (.inr ⟨by decide, by decide⟩) ?_
      walk_at "rd"
      refine .inl ⟨z, rfl, ?_⟩
      walk_at "rd"
      refine RD.i1 (by decide) ?_
      walk_at "rd"
      refine RD.i1 (.inr ⟨by decide, by decide⟩) ?_
      walk_at "rd"
      refine RD.ixL (.inl (.inl hst1)) at1 ?_
      walk_at "rd"
      refine .inl ⟨_, rfl, ?_⟩
      walk_at "rd"
      refine RD.i1 (by decide) ?_
      have g0 : 0 ≤ (seed * 48271 + z % 2147483629 * 30103 + (at_ : Int) + 7) % 2147483647 := Int.emod_nonneg _ (by decide)
      have g1 : (seed * 48271 + z % 2147483629 * 30103 + (at_ : Int) + 7) % 2147483647 < 2147483647 := Int.emod_lt_of_pos _ (by decide)
      generalize (seed * 48271 + z % 2147483629 * 30103 + (at_ : Int) + 7) % 2147483647 = s2 at g0 g1 ⊢
      refine ⟨_, rfl, ⟨st, _, 3, 3, rfl, rfl, hst1, rfl, ?_⟩⟩
      dsimp only [List.set]
      walk_at "rd"
      refine RD.ixL (.inl (.inl upd_same)) at1 ?_
      walk_at "rd"
      refine ⟨_, rfl, ⟨st, _, 1, 1, rfl, rfl, upd_same, rfl, ?_⟩⟩
      dsimp only [List.set]
      refine q _ (fun b u hb2 hu => by rw [upd_ne hb2, upd_ne hb2]; exact hb b u hb2 hu) ⟨at_ + 1, held', s2, left', upd_same, by rw [upd_ne hne, upd_ne hne]; exact hb _ _ hne hcl, hne, hh1, g0, by omega⟩
    · walk_at "rd"
      refine RD.i1 ⟨by decide, by decide, by decide⟩ ?_
      walk_at "rd"
      refine ite2 (fun h3 => ?_) (fun h3 => ?_)
      · walk_at "rd"
        refine ⟨_, rfl, ⟨st, _, 2, 2, rfl, rfl, upd_same, rfl, ?_⟩⟩
        dsimp only [List.set]
        walk_at "rd"
        refine ⟨_, rfl, ⟨st, _, 4, 4, rfl, rfl, upd_same, rfl, ?_⟩⟩
        dsimp only [List.set]
        walk_at "rd"
        exact hrest _ _ ⟨rfl, z, 0, fun b u hb2 hu => by rw [upd_ne hb2, upd_ne hb2, upd_ne hb2]; exact hu, upd_same, hsz⟩
      · (first | with_reducible refine RD.next ?_ | (with_reducible refine RD.ifF ?_; with_reducible refine RD.next ?_))
        exact hrest _ _ ⟨rfl, 0, 5, fun b u hb2 hu => by rw [upd_ne hb2]; exact hu, upd_same, by decide⟩
  · walk_at "rd"
    refine RD.ixL (.inl (.inl hst)) at1 ?_
    walk_at "rd"
    refine RD.ixL (.inl (.inl hst)) at0 ?_
    walk_at "rd"
    refine lenQl (.inl (.inl hcl)) ?_
    walk_at "rd"
    refine ite2 (fun h2 => ?_) (fun h2 => ?_)
    · have hp := of_decide_eq_true h2
      rw [List.length_map] at hp
      have ha : at_ < ns.length := by omega
      walk_at "rd"
      refine RD.ixL (.inl (.inl hst)) at0 ?_
      walk_at "rd"
      refine RD.ixL (.inl (.inl hst)) at1 ?_
      walk_at "rd"
      refine RD.ixL (.inl (.inl hcl)) (atI_nat (v := V.int ns[at_]) (by rw [List.getElem?_map, List.getElem?_eq_getElem ha]; rfl)) ?_
      walk_at "rd"
      exact hrest _ _ ⟨rfl, _, rfl⟩
    · (first | with_reducible refine RD.next ?_ | (with_reducible refine RD.ifF ?_; with_reducible refine RD.next ?_))
      exact hrest _ _ ⟨rfl, 0, rfl⟩
theorem sc__law_draw : FnScope ["_law_state", "_law_many", "_law_number"] ["_law_state", "_law_many"] (defScope (topS 73)) := ⟨rfl, rfl, rfl, by decide +kernel, rfl, by decide +kernel, by decide +kernel⟩
theorem ok_draw2 (T : TxtL K mg) (c__law_load : Cal P w K mg base 1 "_law_load" spLoad []) {f : Addr} {fd : FuncData} (F : Fun K "_law_draw" "_law_draw" (topS 73) f fd) : FnOk P w K mg base CX0 2 f fd ["_law_state", "_law_many"] spDraw2 := by
  refine F.ok sc__law_draw (fun vs H Q E h => ?_) (fun cdv A outer s H vs Q E hr h => ?_)
  · obtain ⟨st, cl, ns, many, rfl, _⟩ := h
    rfl
  obtain ⟨st, cl, ns, many, rfl, hD, hm0, hm1, q⟩ := h
  refine ⟨_, (pss_cons (ps_if ((pw_and (pt_cmpR op_lt (pe_ix (r := rIxL K) ix_list (pv 0) pe_int (fun _ _ => rfl)) pe_int (nomark _)) (pw_and1 (pt_cmpR op_eq (pe_ix (r := rIxL K) ix_list (pv 0) pe_int (fun _ _ => rfl)) pe_int (nomark _))))).pt (pss_one (ps_expr (pe_c c__law_load hr (by decide) (by rfl) (pa_cons (pv 0) pa_nil)))) pss_nil)
      (pss_cons (ps_if (pt_cmpR op_gt (pe_ix (r := rIxL K) ix_list (pv 0) pe_int (fun _ _ => rfl)) pe_int (nomark _)) (pss_cons (ps_set (i := 2) sc__law_draw.nd rfl (Or.inl rfl) (pe_op op_mod (pe_callTy call_int1 (by rfl) T.b_int (by decide +kernel) (pa_cons (pe_ix (r := rIxL K) ix_list (pv 0) pe_int (fun _ _ => rfl)) pa_nil)) (pv 1)))
      (pss_cons (ps_asg (pe_op op_fdivW (pe_ix (r := rIxL K) ix_list (pv 0) pe_int (fun _ _ => rfl)) (pv 1)) (pg_sub (pv 0) pe_int set_list))
      (pss_one (ps_ret (pv 2))))) pss_nil)
      (pss_cons (ps_asg (pe_callB (call_max2 rfl) (by rfl) T.b_max (by decide +kernel) (pa_cons pe_int (pa_cons (pe_op op_sub (pe_ix (r := rIxL K) ix_list (pv 0) pe_int (fun _ _ => rfl)) pe_int) pa_nil))) (pg_sub (pv 0) pe_int set_list))
      (pss_cons (ps_asg (pe_op op_mod (pe_callTy call_int1 (by rfl) T.b_int (by decide +kernel) (pa_cons (pe_op op_add (pe_op op_add (pe_op op_mul (pe_ix (r := rIxL K) ix_list (pv 0) pe_int (fun _ _ => rfl)) pe_int) (pe_op op_mul pe_int (pe_ix (r := rIxL K) ix_list (pv 0) pe_int (fun _ _ => rfl)))) pe_int) pa_nil)) pe_int) (pg_sub (pv 0) pe_int set_list))
      (pss_cons (ps_set (i := 2) sc__law_draw.nd rfl (Or.inl rfl) (pe_op op_mod (pe_callTy call_int1 (by rfl) T.b_int (by decide +kernel) (pa_cons (pe_op op_mul (pe_ix (r := rIxL K) ix_list (pv 0) pe_int (fun _ _ => rfl)) (pe_op op_add (pe_op op_fdivW (pe_ix (r := rIxL K) ix_list (pv 0) pe_int (fun _ _ => rfl)) pe_int) pe_int)) pa_nil)) pe_int))
      (pss_one (ps_ret (pe_op op_mod (pe_callTy call_int1 (by rfl) T.b_int (by decide +kernel) (pa_cons (pe_op op_fdivW (pv 2) pe_int) pa_nil)) (pv 1))))))))), ?_⟩
  refine RD.seq ?_
  refine RD.ifJ2 (fun σ' H' => σ' = [some (.ref st), some (.int many), none] ∧ Btw st H H' ∧ D2 H' st cl ns) (fun σ' H1 hP => ?_) (fun nx hrest => ?_)
  · obtain ⟨rfl, hb, ⟨at_, held, seed, left, hst, hcl, hne, hh0, hs0, hs1⟩⟩ := hP
    walk_at "rd"
    refine RD.ixL (.inl (.inl hst)) at2 ?_
    walk_at "rd"
    refine ite2 (fun h1 => ?_) (fun h1 => ?_)
    · have hp := of_decide_eq_true h1
      walk_at "rd"
      refine RD.ixL (.inl (.inl hst)) at2 ?_
      walk_at "rd"
      refine .inl ⟨held, rfl, ?_⟩
      walk_at "rd"
      refine RD.i1 (by omega) ?_
      walk_at "rd"
      refine RD.ixL (.inl (.inl hst)) at2 ?_
      walk_at "rd"
      refine RD.i1 (wide_div (b := 20) (by omega) (by omega) (by decide) (by decide)) ?_
      refine ⟨_, rfl, ⟨st, _, 2, 2, rfl, rfl, hst, rfl, ?_⟩⟩
      walk_at "rd"
      have e0 : 0 ≤ held % (many : Int) := Int.emod_nonneg _ (by omega)
      have e1 : held % (many : Int) < many := Int.emod_lt_of_pos _ (by omega)
      have e2 : ((held % (many : Int)).toNat : Int) = held % (many : Int) := Int.toNat_of_nonneg e0
      rw [← e2]
      exact q _ _ (by omega) (fun b u hb2 hu => by rw [upd_ne hb2]; exact hb b u hb2 hu) ⟨at_, held / (many : Int), seed, left, upd_same, by rw [upd_ne hne]; exact hcl, hne, Int.ediv_nonneg hh0 (by omega), hs0, hs1⟩
    · walk_at "rd"
      refine RD.ixL (.inl (.inl hst)) at4 ?_
      walk_at "rd"
      refine ⟨_, _, rfl, ?_⟩
      generalize (if left - 1 > 0 then left - 1 else 0) = l2
      refine ⟨_, rfl, ⟨st, _, 4, 4, rfl, rfl, hst, rfl, ?_⟩⟩
      dsimp only [List.set]
      walk_at "rd"
      refine RD.ixL (.inl (.inl upd_same)) at3 ?_
      walk_at "rd"
      refine RD.i1 (.inr ⟨by decide, by decide⟩) ?_
      walk_at "rd"
      refine RD.ixL (.inl (.inl upd_same)) at4 ?_
      walk_at "rd"
      refine RD.i1 (.inl ⟨by decide, by decide⟩) ?_
      walk_at "rd"
      refine .inl ⟨_, rfl, ?_⟩
      walk_at "rd"
      refine RD.i1 (by decide) ?_
      have g0 : 0 ≤ (seed * 69621 + 40692 * l2 + 1) % 2147483399 := Int.emod_nonneg _ (by decide)
      have g1 : (seed * 69621 + 40692 * l2 + 1) % 2147483399 < 2147483399 := Int.emod_lt_of_pos _ (by decide)
      generalize (seed * 69621 + 40692 * l2 + 1) % 2147483399 = s2 at g0 g1 ⊢
      refine ⟨_, rfl, ⟨st, _, 3, 3, rfl, rfl, upd_same, rfl, ?_⟩⟩
      dsimp only [List.set]
      walk_at "rd"
      refine RD.ixL (.inl (.inl upd_same)) at3 ?_
      walk_at "rd"
      refine RD.ixL (.inl (.inl upd_same)) at3 ?_
      walk_at "rd"
      refine RD.i1 ⟨by decide, by decide +kernel⟩ ?_
      walk_at "rd"
      refine RD.i1 (.inl ⟨by omega, by omega⟩) ?_
      walk_at "rd"
      refine .inl ⟨_, rfl, ?_⟩
      walk_at "rd"
      refine RD.i1 (by decide) ?_
      generalize s2 * (s2 / 1009 + 40699) % 2147483647 = nn
      walk_at "rd"
      refine RD.i1 ⟨by decide, by decide +kernel⟩ ?_
      walk_at "rd"
      refine .inl ⟨_, rfl, ?_⟩
      walk_at "rd"
      refine RD.i1 (by omega) ?_
      have e0 : 0 ≤ nn / 11 % (many : Int) := Int.emod_nonneg _ (by omega)
      have e1 : nn / 11 % (many : Int) < many := Int.emod_lt_of_pos _ (by omega)
      have e2 : ((nn / 11 % (many : Int)).toNat : Int) = nn / 11 % (many : Int) := Int.toNat_of_nonneg e0
      rw [← e2]
      exact q _ _ (by omega) (fun b u hb2 hu => by rw [upd_ne hb2, upd_ne hb2]; exact hb b u hb2 hu) ⟨at_, held, s2, l2, upd_same, by rw [upd_ne hne, upd_ne hne]; exact hcl, hne, hh0, g0, by omega⟩
  · obtain ⟨at_, held, seed, left, hst, hcl, hne, hh0, hs0, hs1⟩ := id hD
    have no : nx [some (.ref st), some (.int many), none] H := hrest _ _ ⟨rfl, Btw.refl, hD⟩
    walk_at "rd"
    refine RD.ixL (.inl (.inl hst)) at2 ?_
    walk_at "rd"
    refine ite2 (fun h1 => ?_) (fun h1 => ?_)
    · walk_at "rd"
      refine RD.ixL (.inl (.inl hst)) at4 ?_
      walk_at "rd"
      refine ite2 (fun h2 => ?_) (fun h2 => ?_)
      · walk_at "rd"
        exact ⟨st, cl, ns, rfl, hD, fun H2 b2 d2 => hrest _ _ ⟨rfl, b2, d2⟩⟩
      · walk_at "rd"
        exact no
    · walk_at "rd"
      exact no
/-- a new state of the draw -/
def spBegin (K : PySem.W.Frag) : Sp := fun vs H Q _ => ∃ (a : Addr) (ns : List Int), vs = [.ref a] ∧ SqL K H a (ns.map V.int) ∧ ns.length ≤ 63 ∧ ∀ (H' : Hp) (st cl : Addr), Same H H' → H st = none → H cl = none → D2 H' st cl ns → Q (.ref st) H'
theorem sc__law_begin : FnScope ["_law_script"] ["_law_script"] (defScope (topS 71)) := ⟨rfl, rfl, rfl, by decide +kernel, rfl, by decide +kernel, by decide +kernel⟩
theorem ok_begin (T : TxtL K mg) {f : Addr} {fd : FuncData} (F : Fun K "_law_begin" "_law_begin" (topS 71) f fd) : FnOk P w K mg base CX0 1 f fd ["_law_script"] (spBegin K) := by
  refine F.ok sc__law_begin (fun vs H Q E h => ?_) (fun cdv A outer s H vs Q E hr h => ?_)
  · obtain ⟨a, ns, rfl, _⟩ := h
    rfl
  obtain ⟨a, ns, rfl, hS, hl, q⟩ := h
  refine ⟨_, (pss_one (ps_ret (pe_lst (pa_cons (pe_callTy call_list_of (by rfl) T.b_list (by decide +kernel) (pa_cons (pv 0) pa_nil)) (pa_cons pe_int (pa_cons pe_int (pa_cons pe_int (pa_cons pe_int pa_nil)))))))), ?_⟩
  walk_at "rd"
  refine ⟨a, _, rfl, .inl hS, fun cl n1 => ?_⟩
  walk_at "rd"
  refine ⟨by rw [sizeLine_eq]; exact Nat.le_of_ble_eq_true rfl, fun st n2 => ?_⟩
  have n3 : H st = none := none_of ((Same.refl H).nw n1) n2
  have hne : cl ≠ st := fun e => by rw [← e, upd_same] at n2; cases n2
  exact q _ st cl (((Same.refl H).nw n1).nw n2) n3 n1 ⟨0, 0, 1, 0, upd_same, by rw [upd_ne hne]; exact upd_same, hne, by decide, by decide, by decide⟩
end
end SF
set_option Elab.async false
set_option linter.all false
set_option maxRecDepth 100000
set_option maxHeartbeats 4000000
/-! _law_word, _law_words -/
namespace RD
open PySem PySem.Spec PyProof.Rows L2 G0
theorem rng1 {ta : TA} {σ : L2.St} {H : Hp} {R : It → Hp → Prop} (h : ta σ H fun vs H1 => ∃ j : Int, vs = [.int j] ∧ -(2 ^ 62) ≤ j ∧ j < 2 ^ 62 ∧ R (Itr 0 j.toNat) H1) : iRng1 ta σ H R := h
theorem istr {te : TE} {σ : L2.St} {H : Hp} {R : It → Hp → Prop} (h : te σ H fun x H1 => ∃ z, x = .str z ∧ R (Its z) H1) : iStr te σ H R := h
end RD
namespace SF
open PySem PySem.Spec PyProof.Rows L2 G0
open C8 (Cal Mak Met pe_c pe_mk pe_mt pe_mt0 pe_gc)
def spWord : Sp := fun vs H Q _ => ∃ (st cl : Addr) (ns : List Int), vs = [.ref st] ∧ D2 H st cl ns ∧ ∀ (z : Str) (H' : Hp), nameS z = true → z.length ≤ 8 → Btw st H H' → D2 H' st cl ns → Q (.str z) H'
def spWords : Sp := fun vs H Q _ => ∃ (st cl : Addr) (ns : List Int) (many : Nat), vs = [.ref st, .int many] ∧ many ≤ 20 ∧ D2 H st cl ns ∧ ∀ (zs : List Str) (p : Addr) (H' : Hp), zs.length = many → zs.all nameS = true → H p = none → H' p = some (.lst (zs.map V.str)) → Btw st H H' → D2 H' st cl ns → Q (.ref p) H'
section
variable {P : Program} {w : World} {K : PySem.W.Frag} {mg : Str → Option Value} {base : Heap}
local macro_rules | `(tactic| walk_at "rd1") => `(tactic| first
  | (with_reducible refine RD.seq ?_) | (with_reducible refine RD.next ?_) | (with_reducible refine RD.ifS ?_) | (with_reducible refine RD.ret ?_) | (with_reducible refine RD.retN ?_) | (with_reducible refine RD.drop ?_) | (with_reducible refine RD.asg ?_) | (with_reducible refine RD.gname ?_)
  | ((with_reducible apply RD.var); exact rfl) | (with_reducible refine RD.c_ ?_) | (with_reducible refine RD.op ?_) | (with_reducible refine RD.un ?_) | (with_reducible refine RD.cb ?_) | (with_reducible refine RD.cons ?_) | (with_reducible refine RD.nil ?_) | (with_reducible refine RD.tup ?_) | (with_reducible refine RD.lst ?_)
  | (with_reducible refine RD.B_ ?_) | (with_reducible refine RD.test ?_) | (with_reducible refine RD.exB ?_) | (with_reducible refine RD.exI ?_) | (with_reducible refine RD.and_ ?_) | (with_reducible refine RD.or_ ?_) | (with_reducible refine RD.not_ ?_) | (with_reducible refine RD.andV ?_) | (with_reducible refine RD.orV ?_) | (with_reducible refine RD.notV ?_) | (with_reducible refine RD.if_ ?_)
  | (with_reducible refine RD.ifT ?_) | (with_reducible refine RD.ifF ?_) | (with_reducible refine RD.ifNT ?_) | (with_reducible refine RD.ifNF ?_) | (with_reducible refine RD.yes ?_) | (with_reducible refine RD.sl ?_) | (with_reducible refine RD.noPart ?_) | (with_reducible refine RD.part ?_) | (with_reducible refine RD.i0 ?_) | (with_reducible refine RD.eqS ?_) | (with_reducible refine RD.eqI ?_) | (with_reducible refine RD.neS ?_) | (with_reducible refine RD.neI ?_)
  | (with_reducible refine RD.isN_n ?_) | (with_reducible refine RD.isN_r ?_) | (with_reducible refine RD.isN_s ?_) | (with_reducible refine RD.isN_b ?_) | (with_reducible refine RD.isN_i ?_) | (with_reducible refine RD.notN_n ?_) | (with_reducible refine RD.notN_r ?_) | (with_reducible refine RD.notN_s ?_)
  | (with_reducible refine RD.call ?_) | (with_reducible refine RD.make ?_) | (with_reducible refine RD.gcons ?_) | (with_reducible refine RD.gnil ?_) | (with_reducible refine RD.bm ?_) | (with_reducible refine RD.bm0 ?_) | (with_reducible refine RD.dget ?_) | (with_reducible refine RD.din ?_) | (with_reducible refine RD.tfld ?_) | (with_reducible refine RD.then_ ?_) | (with_reducible refine RD.chain ?_) | (with_reducible refine RD.itup ?_) | (with_reducible refine RD.ikeys ?_) | (with_reducible refine RD.ivals ?_) | (with_reducible refine RD.iitems ?_) | (with_reducible refine RD.lset ?_) | (with_reducible refine RD.ilist ?_) | ((with_reducible apply RD.aug); exact rfl))
local macro_rules | `(tactic| walk_at "rd") => `(tactic| repeat walk_at "rd1")
theorem sc__law_word : FnScope ["_law_state", "_law_letters", "_law_k"] ["_law_state"] (defScope (topS 74)) := ⟨rfl, rfl, rfl, by decide +kernel, rfl, by decide +kernel, by decide +kernel⟩
theorem ok_word (T : TxtL K mg) (c__law_draw : Cal P w K mg base 2 "_law_draw" spDraw2 []) {f : Addr} {fd : FuncData} (F : Fun K "_law_word" "_law_word" (topS 74) f fd) : FnOk P w K mg base CX0 3 f fd ["_law_state"] spWord := by
  refine F.ok sc__law_word (fun vs H Q E h => ?_) (fun cdv A outer s H vs Q E hr h => ?_)
  · obtain ⟨st, cl, ns, rfl, _⟩ := h
    rfl
  obtain ⟨st, cl, ns, rfl, hst, q⟩ := h
  refine ⟨_, (pss_cons (ps_set (i := 1) sc__law_word.nd rfl (Or.inr rfl) pe_str)
      (pss_one (ps_ret (pe_join pe_str (pe_lc (own := [("_law_k", 2)]) (tt := tYes) rfl sc__law_word.nd (pi_range1 (by rfl) T.b_range (pa_cons (pe_op op_add pe_int (pe_c c__law_draw hr (by decide) (by rfl) (pa_cons (pv 0) (pa_cons pe_int pa_nil)))) pa_nil)) (blkOk_by (N := ["_law_state", "_law_letters", "_law_k"]) (sc := defScope (topS 74)) (by decide +kernel)) (fun _ _ _ _ _ => (pg_name (i := 2) sc__law_word.nd rfl (Or.inl rfl))) (fun _ _ _ _ _ => pts_nil) (fun _ _ _ _ _ => (pe_ix ix_str (pv 1) (pe_c c__law_draw hr (by decide) (by rfl) (pa_cons (pv 0) (pa_cons pe_int pa_nil))) (fun _ _ => rfl)))))))), ?_⟩
  walk_at "rd"
  with_reducible refine RD.tm1 ?_
  walk_at "rd"
  refine ⟨⟨_, rfl⟩, ?_⟩
  unfold tLc
  refine RD.rng1 ?_
  walk_at "rd"
  refine ⟨st, cl, ns, 8, rfl, hst, by decide, by decide, fun k H1 hk b1 hst1 => ?_⟩
  walk_at "rd"
  refine ⟨_, rfl, by omega, by omega, fun D hD => ?_⟩
  rw [show (1 : Int) + (k : Int) = ((1 + k : Nat) : Int) by omega, Int.toNat_natCast]
  obtain ⟨hDs, hDc⟩ := hst1.none hD
  refine lc_range (fun i H' => ∃ l : List Nat, l.length = i ∧ (∀ c ∈ l, c ∈ codes) ∧ H' D = some (.lst ((chars l).map V.str)) ∧ D2 H' st cl ns ∧ Btw st H1 H') ⟨[], rfl, fun c h => (nomatch h), upd_same, hst1.upd hDs hDc, Btw.of ((Same.refl H1).nw hD)⟩ (fun i H2 hi hP => ?_) fun H2 hP => ?_
  · obtain ⟨l, hl, hc, hD2, hst2, b2⟩ := hP
    walk_at "rd"
    refine ⟨rfl, ?_⟩
    walk_at "rd"
    refine ⟨st, cl, ns, 26, rfl, hst2, by decide, by decide, fun j H3 hj b3 hst3 => ?_⟩
    refine ⟨abc, j, 97 + j, rfl, rfl, by rw [sizeLine_eq]; decide, atI_nat (abc_at ⟨j, hj⟩), ?_⟩
    have hD3 := b3 _ _ hDs hD2
    refine ⟨_, hD3, by rw [sizeLine_eq, List.length_map]; unfold chars; rw [List.length_map]; omega, l ++ [97 + j], by rw [List.length_append, hl]; rfl, fun c h => ?_, ?_, hst3.upd hDs hDc, fun b u hb hu => ?_⟩
    · rcases List.mem_append.mp h with h | h
      · exact hc c h
      · rw [List.mem_singleton.mp h]
        exact List.mem_map_of_mem (List.mem_range.mpr hj)
    · rw [upd_same]
      unfold chars
      rw [List.map_append, List.map_append]
      rfl
    · rw [upd_ne (ne_of_none hu hD)]
      exact (b2.trans b3) b u hb hu
  · obtain ⟨l, hl, hc, hD2, hst2, b2⟩ := hP
    have hlen : ((chars l).map (·.length)).sum = l.length := by
      unfold chars
      rw [List.map_map]
      clear hl hc hD2
      induction l with
      | nil => rfl
      | cons c r ih => rw [List.map_cons, List.sum_cons, ih, List.length_cons]; show 1 + r.length = _; omega
    refine ⟨_, D, chars l, rfl, rfl, .inl (SqL.of hD2), by rw [hlen]; show l.length + (chars l).length * 0 ≤ _; omega, ?_⟩
    rw [join_chars]
    refine q _ H2 (name_of (by omega) (by omega) hc) ?_ (b1.trans b2) hst2
    · show l.toArray.size ≤ 8
      rw [List.size_toArray]
      omega
theorem sc__law_words : FnScope ["_law_state", "_law_many", "_law_words_here", "_law_k", "_law_word_here", "_law_letter"] ["_law_state", "_law_many"] (defScope (topS 75)) := ⟨rfl, rfl, rfl, by decide +kernel, rfl, by decide +kernel, by decide +kernel⟩
theorem ok_words (T : TxtL K mg) (c__law_word : Cal P w K mg base 3 "_law_word" spWord []) {f : Addr} {fd : FuncData} (F : Fun K "_law_words" "_law_words" (topS 75) f fd) : FnOk P w K mg base CX0 4 f fd ["_law_state", "_law_many"] spWords := by
  refine F.ok sc__law_words (fun vs H Q E h => ?_) (fun cdv A outer s H vs Q E hr h => ?_)
  · obtain ⟨st, cl, ns, many, rfl, _⟩ := h
    rfl
  obtain ⟨st, cl, ns, many, rfl, hm, hst, q⟩ := h
  refine ⟨_, (pss_cons (ps_set (i := 2) sc__law_words.nd rfl (Or.inr rfl) (pe_lst pa_nil))
      (pss_cons (ps_for PassesOwn.never rfl (pi_range1 (by rfl) T.b_range (pa_cons (pv 1) pa_nil)) (pg_name (i := 3) sc__law_words.nd rfl (Or.inl rfl)) (pss_cons (ps_set (i := 4) sc__law_words.nd rfl (Or.inl rfl) (pe_c c__law_word hr (by decide) (by rfl) (pa_cons (pv 0) pa_nil)))
      (pss_cons (ps_if (pt_cmpR (r := rIn K false) op_in_seq (pv 4) (pv 2) (by rfl)) (pss_one (ps_set (i := 4) sc__law_words.nd rfl (Or.inl rfl) (pe_ix (r := rIxL K) ix_list (pe_lc (own := [("_law_letter", 5)]) rfl sc__law_words.nd (pi_str pe_str) (blkOk_by (N := ["_law_state", "_law_many", "_law_words_here", "_law_k", "_law_word_here", "_law_letter"]) (sc := defScope (topS 75)) (by decide +kernel)) (fun _ _ _ _ _ => (pg_name (i := 5) sc__law_words.nd rfl (Or.inl rfl))) (fun _ _ _ _ _ => pts_one (pt_cmpR (show OpR _ _ (rIn K true) from op_notIn_seq) (pv 5) (pv 2) (by rfl))) (fun _ _ _ _ _ => (pv 5))) pe_int (fun _ _ => rfl)))) pss_nil)
      (pss_one (ps_expr (pe_bm PySem.F.plainAttrs_list PySem.F.slot_list_append PySem.F.type_list_append mt_append (pv 2) (pa_cons (pv 4) pa_nil)))))))
      (pss_one (ps_ret (pv 2))))), ?_⟩
  walk_at "rd"
  refine ⟨by rw [sizeLine_eq]; exact Nat.zero_le _, fun p np => ?_⟩
  obtain ⟨hps, hpc⟩ := hst.none np
  walk_at "rd"
  unfold tFor
  refine RD.rng1 ?_
  walk_at "rd"
  refine ⟨_, rfl, by omega, by omega, ?_⟩
  rw [Int.toNat_natCast]
  refine for_range (lo := 0) (n := many) (fun i σ H' => ∃ (zs : List Str) (oK oW : Option V), σ = [some (.ref st), some (.int many), some (.ref p), oK, oW, none] ∧ zs.length = i ∧ zs.all nameS = true ∧ H' p = some (.lst (zs.map V.str)) ∧ D2 H' st cl ns ∧ Btw st H H') ⟨[], none, none, rfl, rfl, rfl, upd_same, hst.upd hps hpc, Btw.of ((Same.refl H).nw np)⟩ (fun i σ H1 hi hP => ?_) fun σ H1 hP => ?_
  · obtain ⟨zs, oK, oW, rfl, hl, ha, hp1, hst1, b1⟩ := hP
    walk_at "rd"
    refine ⟨st, cl, ns, rfl, hst1, fun z H2 hz hz8 b2 hst2 => ?_⟩
    have hp2 := b2 _ _ hps hp1
    refine RD.gname (RD.seq ?_)
    dsimp only [List.set]
    refine RD.ifJ2 (fun σ' H' => ∃ z' : Str, σ' = [some (.ref st), some (.int many), some (.ref p), some (.int (0 + i)), some (.str z'), none] ∧ nameS z' = true ∧ H' p = some (.lst (zs.map V.str)) ∧ D2 H' st cl ns ∧ Btw st H2 H') (fun σ' H3 hP => ?_) (fun nx hrest => ?_)
    · obtain ⟨z', rfl, hz', hp3, hst3, b3⟩ := hP
      walk_at "rd"
      refine ⟨.inl ⟨rfl, _, SqL.of hp3⟩, ?_⟩
      walk_at "rd"
      refine ⟨p, _, _, rfl, rfl, hp3, by rw [List.length_map, sizeLine_eq]; omega, ?_⟩
      refine ⟨zs ++ [z'], _, _, rfl, by rw [List.length_append, hl]; rfl, ?_, by rw [upd_same, List.map_append]; rfl, hst3.upd hps hpc, fun b u hb hu => ?_⟩
      · rw [List.all_append, ha, List.all_cons, hz']
        rfl
      · rw [upd_ne (ne_of_none hu np)]
        exact (b1.trans (b2.trans b3)) b u hb hu
    · walk_at "rd"
      refine ⟨p, _, rfl, .inl (SqL.of hp2), rfl, flat_strs zs, ?_⟩
      rw [if_neg Bool.false_ne_true, inV_str]
      walk_at "rd"
      refine ite2 (fun h1 => ?_) (fun h1 => ?_)
      · walk_at "rd"
        unfold tLc
        refine RD.istr ?_
        walk_at "rd"
        refine ⟨_, rfl, fun D hD => ?_⟩
        obtain ⟨hDs, hDc⟩ := hst2.none hD
        have hDp : D ≠ p := fun e => by rw [e, hp2] at hD; cases hD
        refine lc_it walk_str (fun i H' => H' D = some (.lst ((((chars codes).take i).filter fun x => !decide (x ∈ zs)).map V.str)) ∧ Same H2 H') ⟨upd_same, (Same.refl H2).nw hD⟩ (fun _ _ _ _ => trivial) (fun i x H3 H4 hi hP hy => ?_) fun H3 hP => ?_
        · obtain ⟨hD3, s3⟩ := hP
          obtain ⟨rfl, c, hc, rfl⟩ := hy
          have hi26 : i < 26 := by
            have e := abc_size
            have : i < abc.cps.size := hi
            omega
          have ec := abc_one hi26 hc
          walk_at "rd"
          refine ⟨rfl, ?_⟩
          walk_at "rd"
          refine ⟨p, _, rfl, .inl (SqL.of (s3 _ _ hp2)), rfl, flat_strs zs, ?_⟩
          rw [if_pos rfl, inV_str]
          walk_at "rd"
          have el : (chars codes).take (i + 1) = (chars codes).take i ++ [⟨#[c]⟩] := by rw [List.take_succ, ec]; rfl
          have el2 : (((chars codes).take i).filter fun x => !decide (x ∈ zs)).length ≤ 26 := by
            refine Nat.le_trans (List.length_filter_le _ _) ?_
            rw [List.length_take]
            omega
          cases hb : (!decide ((⟨#[c]⟩ : Str) ∈ zs)) with
          | true =>
            have ef : ((chars codes).take (i + 1)).filter (fun x => !decide (x ∈ zs)) = ((chars codes).take i).filter (fun x => !decide (x ∈ zs)) ++ [⟨#[c]⟩] := by
              rw [el, List.filter_append, List.filter_cons_of_pos (p := fun x => !decide (x ∈ zs)) hb]
              rfl
            rw [if_pos rfl]
            walk_at "rd"
            refine ⟨_, hD3, by rw [List.length_map, sizeLine_eq]; omega, ?_, s3.mt hD⟩
            rw [upd_same, ef, List.map_append]
            rfl
          | false =>
            have ef : ((chars codes).take (i + 1)).filter (fun x => !decide (x ∈ zs)) = ((chars codes).take i).filter (fun x => !decide (x ∈ zs)) := by
              rw [el, List.filter_append, List.filter_cons_of_neg (p := fun x => !decide (x ∈ zs)) (by rw [hb]; exact Bool.false_ne_true), List.filter_nil, List.append_nil]
            rw [if_neg Bool.false_ne_true, ef]
            exact ⟨hD3, s3⟩
        · obtain ⟨hD3, s3⟩ := hP
          have ew : (chars codes).take (Str.ofString "abcdefghijklmnopqrstuvwxyz").cps.size = chars codes := List.take_of_length_le (by
            have e := abc_size
            have e2 : (Str.ofString "abcdefghijklmnopqrstuvwxyz").cps.size = 26 := e
            rw [e2]
            exact Nat.le_refl 26)
          rw [ew] at hD3
          obtain ⟨o, r, ho⟩ := List.exists_cons_of_ne_nil (some_left (zs := zs) (by omega))
          rw [ho] at hD3
          have hmo : o ∈ chars codes := (List.mem_filter.mp (by rw [ho]; exact List.mem_cons_self ..)).1
          refine RD.ixL (.inl (.inl hD3)) at0 ?_
          walk_at "rd"
          exact hrest _ _ ⟨o, rfl, (one_name o hmo).1, s3 _ _ hp2, hst2.same s3, Btw.of s3⟩
      · walk_at "rd"
        exact hrest _ _ ⟨z, rfl, hz, hp2, hst2, Btw.refl⟩
  · obtain ⟨zs, oK, oW, rfl, hl, ha, hp1, hst1, b1⟩ := hP
    walk_at "rd"
    exact q zs p H1 hl ha np hp1 b1 hst1
end
end SF
set_option Elab.async false
set_option linter.all false
set_option maxRecDepth 100000
set_option maxHeartbeats 4000000
/-! readings over a store: data by value, lists, dicts and instances by number -/
namespace SL
open PySem PySem.Spec PyProof.Rows L2 G0
/-- rf n: what stands in the store at n -/
inductive U where
  | non | bl (b : Bool) | int (i : Int) | str (x : Str) | tup (ds : List U) | rf (n : Nat) | raw (v : V)
inductive Ob where
  | lst (ds : List U) | dct (ks : List Key) (ds : List U) | ins (C : Addr) (fs : List Str) (ds : List U)
abbrev Sto := List Ob
abbrev AM := List Addr
def TpAt (K : PySem.W.Frag) (α : AM) (H : Hp) (p : Addr) (vs : List V) : Prop := (H p = some (.tup vs) ∧ p ∉ α) ∨ ∀ H', SqT K H' p vs
mutual
def RpU (K : PySem.W.Frag) (α : AM) (H : Hp) : U → V → Prop
  | .non, v => v = .non
  | .bl b, v => v = .bl b
  | .int i, v => v = .int i
  | .str x, v => v = .str x
  | .raw u, v => v = u
  | .rf n, v => ∃ a, α[n]? = some a ∧ v = .ref a
  | .tup ds, v => ∃ (p : Addr) (vs : List V), v = .ref p ∧ TpAt K α H p vs ∧ RpsU K α H ds vs
def RpsU (K : PySem.W.Frag) (α : AM) (H : Hp) : List U → List V → Prop
  | [], vs => vs = []
  | d :: ds, vs => ∃ v r, vs = v :: r ∧ RpU K α H d v ∧ RpsU K α H ds r
end
section
variable {K : PySem.W.Frag} {α α' : AM} {H H' : Hp}
theorem ru_nil {vs : List V} : RpsU K α H [] vs ↔ vs = [] := by rw [RpsU]
theorem ru_cons {d : U} {ds : List U} {vs : List V} : RpsU K α H (d :: ds) vs ↔ ∃ v r, vs = v :: r ∧ RpU K α H d v ∧ RpsU K α H ds r := by rw [RpsU]
theorem ru_non {v : V} : RpU K α H .non v ↔ v = .non := by rw [RpU]
theorem ru_bl {b : Bool} {v : V} : RpU K α H (.bl b) v ↔ v = .bl b := by rw [RpU]
theorem ru_int {i : Int} {v : V} : RpU K α H (.int i) v ↔ v = .int i := by rw [RpU]
theorem ru_str {x : Str} {v : V} : RpU K α H (.str x) v ↔ v = .str x := by rw [RpU]
theorem ru_raw {u v : V} : RpU K α H (.raw u) v ↔ v = u := by rw [RpU]
theorem ru_rf {n : Nat} {v : V} : RpU K α H (.rf n) v ↔ ∃ a, α[n]? = some a ∧ v = .ref a := by rw [RpU]
theorem ru_tup {ds : List U} {v : V} : RpU K α H (.tup ds) v ↔ ∃ (p : Addr) (vs : List V), v = .ref p ∧ TpAt K α H p vs ∧ RpsU K α H ds vs := by rw [RpU]
theorem ru_len : ∀ {ds : List U} {vs : List V}, RpsU K α H ds vs → ds.length = vs.length
  | [], vs, h => by rw [ru_nil.mp h]; rfl
  | d :: ds, vs, h => by
    obtain ⟨v, r, rfl, _, h2⟩ := ru_cons.mp h
    rw [List.length_cons, List.length_cons, ru_len h2]
theorem ru_at : ∀ {ds : List U} {vs : List V} {i : Nat} {d : U}, RpsU K α H ds vs → ds[i]? = some d → ∃ v, vs[i]? = some v ∧ RpU K α H d v
  | [], vs, i, d, h, e => by simp at e
  | d :: ds, vs, 0, d', h, e => by
    obtain ⟨w, r, rfl, h1, h2⟩ := ru_cons.mp h
    obtain rfl : d = d' := by simpa using e
    exact ⟨w, rfl, h1⟩
  | d :: ds, vs, i + 1, d', h, e => by
    obtain ⟨w, r, rfl, h1, h2⟩ := ru_cons.mp h
    obtain ⟨v, a, b⟩ := ru_at (i := i) (d := d') h2 (by simpa using e)
    exact ⟨v, by simpa using a, b⟩
theorem ru_app : ∀ {ds es : List U} {vs ws : List V}, RpsU K α H ds vs → RpsU K α H es ws → RpsU K α H (ds ++ es) (vs ++ ws)
  | [], es, vs, ws, h, k => by rw [ru_nil.mp h]; exact k
  | d :: ds, es, vs, ws, h, k => by
    obtain ⟨v, r, rfl, h1, h2⟩ := ru_cons.mp h
    exact ru_cons.mpr ⟨v, r ++ ws, rfl, h1, ru_app h2 k⟩
theorem ru_one {d : U} {v : V} (h : RpU K α H d v) : RpsU K α H [d] [v] := ru_cons.mpr ⟨v, [], rfl, h, ru_nil.mpr rfl⟩
theorem ru_take : ∀ {ds : List U} {vs : List V} (n : Nat), RpsU K α H ds vs → RpsU K α H (ds.take n) (vs.take n)
  | [], vs, n, h => by rw [ru_nil.mp h, List.take_nil, List.take_nil]; exact ru_nil.mpr rfl
  | d :: ds, vs, 0, h => ru_nil.mpr rfl
  | d :: ds, vs, n + 1, h => by
    obtain ⟨v, r, rfl, h1, h2⟩ := ru_cons.mp h
    exact ru_cons.mpr ⟨v, r.take n, rfl, h1, ru_take n h2⟩
theorem ru_drop : ∀ {ds : List U} {vs : List V} (n : Nat), RpsU K α H ds vs → RpsU K α H (ds.drop n) (vs.drop n)
  | [], vs, n, h => by rw [ru_nil.mp h, List.drop_nil, List.drop_nil]; exact ru_nil.mpr rfl
  | d :: ds, vs, 0, h => h
  | d :: ds, vs, n + 1, h => by
    obtain ⟨v, r, rfl, h1, h2⟩ := ru_cons.mp h
    exact ru_drop n h2
theorem ru_set : ∀ {ds : List U} {vs : List V} {i : Nat} {d : U} {v : V}, RpsU K α H ds vs → RpU K α H d v → RpsU K α H (ds.set i d) (vs.set i v)
  | [], vs, i, d, v, h, k => by rw [ru_nil.mp h]; exact ru_nil.mpr rfl
  | e :: ds, vs, 0, d, v, h, k => by
    obtain ⟨w, r, rfl, h1, h2⟩ := ru_cons.mp h
    exact ru_cons.mpr ⟨v, r, rfl, k, h2⟩
  | e :: ds, vs, i + 1, d, v, h, k => by
    obtain ⟨w, r, rfl, h1, h2⟩ := ru_cons.mp h
    exact ru_cons.mpr ⟨w, _, rfl, h1, ru_set h2 k⟩
/-- what has been done: the store grows by new things, all else stays -/
structure Ext (α : AM) (H : Hp) (α' : AM) (H' : Hp) : Prop where
  pre : α <+: α'
  kp : ∀ b u, b ∉ α → H b = some u → H' b = some u
  nw : ∀ b, b ∈ α' → b ∉ α → H b = none
theorem Ext.refl : Ext α H α H := ⟨List.prefix_refl _, fun _ _ _ h => h, fun _ h n => absurd h n⟩
theorem Ext.trans {α2 : AM} {H2 : Hp} (a : Ext α H α' H') (b : Ext α' H' α2 H2) : Ext α H α2 H2 := ⟨a.pre.trans b.pre, fun c u n h => b.kp c u (fun z => by have := a.nw c z n; rw [h] at this; cases this) (a.kp c u n h), fun c h n => by
  by_cases z : c ∈ α'
  · exact a.nw c z n
  · cases e : H c with
    | none => rfl
    | some u => have := b.nw c h z; rw [a.kp c u n e] at this; cases this⟩
theorem Ext.get (e : Ext α H α' H') {n : Nat} {a : Addr} (h : α[n]? = some a) : α'[n]? = some a := by
  obtain ⟨t, rfl⟩ := e.pre
  rw [List.getElem?_append_left (List.getElem?_eq_some_iff.mp h).1]
  exact h
theorem TpAt.ext (e : Ext α H α' H') {p : Addr} {vs : List V} (h : TpAt K α H p vs) : TpAt K α' H' p vs := by
  rcases h with ⟨h1, h2⟩ | h
  · exact .inl ⟨e.kp p _ h2 h1, fun z => by have := e.nw p z h2; rw [h1] at this; cases this⟩
  · exact .inr h
theorem TpAt.sq {p : Addr} {vs : List V} (h : TpAt K α H p vs) : SqT K H p vs := by
  rcases h with ⟨h, _⟩ | h
  · exact .inl (.inl h)
  · exact h H
mutual
theorem RpU.ext (e : Ext α H α' H') : ∀ {d : U} {v : V}, RpU K α H d v → RpU K α' H' d v
  | .non, v, h => by rw [ru_non] at h ⊢; exact h
  | .bl _, v, h => by rw [ru_bl] at h ⊢; exact h
  | .int _, v, h => by rw [ru_int] at h ⊢; exact h
  | .str _, v, h => by rw [ru_str] at h ⊢; exact h
  | .raw _, v, h => by rw [ru_raw] at h ⊢; exact h
  | .rf n, v, h => by
    obtain ⟨a, h1, h2⟩ := ru_rf.mp h
    exact ru_rf.mpr ⟨a, e.get h1, h2⟩
  | .tup ds, v, h => by
    obtain ⟨p, vs, rfl, h1, h2⟩ := ru_tup.mp h
    exact ru_tup.mpr ⟨p, vs, rfl, h1.ext e, RpsU.ext e h2⟩
theorem RpsU.ext (e : Ext α H α' H') : ∀ {ds : List U} {vs : List V}, RpsU K α H ds vs → RpsU K α' H' ds vs
  | [], vs, h => by rw [ru_nil] at h ⊢; exact h
  | d :: ds, vs, h => by
    obtain ⟨v, r, rfl, h1, h2⟩ := ru_cons.mp h
    exact ru_cons.mpr ⟨v, r, rfl, RpU.ext e h1, RpsU.ext e h2⟩
end
def ObAt (K : PySem.W.Frag) (α : AM) (H : Hp) (a : Addr) : Ob → Prop
  | .lst ds => ∃ vs, H a = some (.lst vs) ∧ RpsU K α H ds vs
  | .dct ks ds => ∃ vs, H a = some (.dK (ks.zip vs)) ∧ ks.length = ds.length ∧ RpsU K α H ds vs
  | .ins C fs ds => ∃ dx vs, H a = some (.ins C dx (fs.zip vs)) ∧ fs.length = ds.length ∧ RpsU K α H ds vs
theorem ObAt.ext (e : Ext α H α' H') {a : Addr} {b : Ob} (h : ObAt K α H a b) (ha : H' a = H a) : ObAt K α' H' a b := by
  cases b with
  | lst ds => obtain ⟨vs, h1, h2⟩ := h; exact ⟨vs, ha.trans h1, h2.ext e⟩
  | dct ks ds => obtain ⟨vs, h1, hl, h2⟩ := h; exact ⟨vs, ha.trans h1, hl, h2.ext e⟩
  | ins C fs ds => obtain ⟨dx, vs, h1, hl, h2⟩ := h; exact ⟨dx, vs, ha.trans h1, hl, h2.ext e⟩
theorem ObAt.some {a : Addr} {b : Ob} (h : ObAt K α H a b) : H a ≠ .none := by
  cases b with
  | lst ds => obtain ⟨vs, h1, h2⟩ := h; rw [h1]; exact fun z => nomatch z
  | dct ks ds => obtain ⟨vs, h1, h2⟩ := h; rw [h1]; exact fun z => nomatch z
  | ins C fs ds => obtain ⟨dx, vs, h1, h2⟩ := h; rw [h1]; exact fun z => nomatch z
/-- the store lies in the heap -/
structure SOk (K : PySem.W.Frag) (α : AM) (s : Sto) (H : Hp) : Prop where
  len : s.length = α.length
  nd : α.Nodup
  ob : ∀ (n : Nat) (b : Ob) (a : Addr), s[n]? = some b → α[n]? = some a → ObAt K α H a b
variable {s s' : Sto}
theorem SOk.get (h : SOk K α s H) {n : Nat} {b : Ob} (e : s[n]? = some b) : ∃ a, α[n]? = some a ∧ ObAt K α H a b := by
  have hl := (List.getElem?_eq_some_iff.mp e).1
  rw [h.len] at hl
  exact ⟨_, List.getElem?_eq_getElem hl, h.ob n b _ e (List.getElem?_eq_getElem hl)⟩
theorem SOk.live (h : SOk K α s H) {a : Addr} (ha : a ∈ α) : H a ≠ none := by
  obtain ⟨n, hn⟩ := List.getElem?_of_mem ha
  have hl := (List.getElem?_eq_some_iff.mp hn).1
  rw [← h.len] at hl
  exact (h.ob n _ a (List.getElem?_eq_getElem hl) hn).some
theorem SOk.off (h : SOk K α s H) {p : Addr} (hp : H p = none) : p ∉ α := fun z => h.live z hp
/-- something new that is not of the store -/
theorem Ext.put {p : Addr} {u : HO} (hp : H p = none) : Ext α H α (upd H p u) := ⟨List.prefix_refl _, fun b v _ hb => by rw [upd_ne (ne_of_none hb hp)]; exact hb, fun _ h n => absurd h n⟩
theorem SOk.nw (h : SOk K α s H) {p : Addr} {u : HO} (hp : H p = none) : SOk K α s (upd H p u) := ⟨h.len, h.nd, fun n b a h1 h2 => (h.ob n b a h1 h2).ext (Ext.put hp) (upd_ne fun e => h.live (List.mem_of_getElem? h2) (by rw [e]; exact hp))⟩
/-- a thing of the store becomes other -/
theorem Ext.chg {a : Addr} {u : HO} (ha : a ∈ α) : Ext α H α (upd H a u) := ⟨List.prefix_refl _, fun b v n hb => by rw [upd_ne fun e => n (by rw [e]; exact ha)]; exact hb, fun _ h n => absurd h n⟩
theorem nd_at {α : Type} {l : List α} {i j : Nat} {x : α} (h : l.Nodup) (a : l[i]? = some x) (b : l[j]? = some x) : i = j := by
  obtain ⟨hi, ei⟩ := List.getElem?_eq_some_iff.mp a
  obtain ⟨hj, ej⟩ := List.getElem?_eq_some_iff.mp b
  rcases Nat.lt_trichotomy i j with q | q | q
  · exact absurd (ei.trans ej.symm) (List.pairwise_iff_getElem.mp h i j hi hj q)
  · exact q
  · exact absurd (ej.trans ei.symm) (List.pairwise_iff_getElem.mp h j i hj hi q)
theorem SOk.chg (h : SOk K α s H) {n : Nat} {a : Addr} {u : HO} {b : Ob} (hn : α[n]? = some a) (hb : ObAt K α (upd H a u) a b) : SOk K α (s.set n b) (upd H a u) := by
  refine ⟨by rw [List.length_set]; exact h.len, h.nd, fun m b' a' h1 h2 => ?_⟩
  by_cases e : n = m
  · subst e
    rw [hn] at h2
    cases h2
    rw [List.getElem?_set_self (by rw [h.len]; exact (List.getElem?_eq_some_iff.mp hn).1)] at h1
    cases h1
    exact hb
  · rw [List.getElem?_set_ne e] at h1
    exact (h.ob m b' a' h1 h2).ext (Ext.chg (List.mem_of_getElem? hn)) (upd_ne fun q => e (nd_at h.nd hn (by rw [← q]; exact h2)))
/-- a new thing of the store -/
theorem Ext.add {p : Addr} {u : HO} (hp : H p = none) : Ext α H (α ++ [p]) (upd H p u) := ⟨List.prefix_append _ _, fun b v _ hb => by rw [upd_ne (ne_of_none hb hp)]; exact hb, fun b h n => by
  rcases List.mem_append.mp h with h | h
  · exact absurd h n
  · rw [List.mem_singleton.mp h]; exact hp⟩
theorem SOk.add (h : SOk K α s H) {p : Addr} {u : HO} {b : Ob} (hp : H p = none) (hb : ObAt K (α ++ [p]) (upd H p u) p b) : SOk K (α ++ [p]) (s ++ [b]) (upd H p u) := by
  refine ⟨by rw [List.length_append, List.length_append, h.len]; rfl, List.nodup_append.mpr ⟨h.nd, by simp, fun x hx y hy e => h.off hp (by rw [← List.mem_singleton.mp hy, ← e]; exact hx)⟩, fun n b' a' h1 h2 => ?_⟩
  by_cases hl : n < s.length
  · rw [List.getElem?_append_left hl] at h1
    rw [List.getElem?_append_left (by rw [← h.len]; exact hl)] at h2
    exact (h.ob n b' a' h1 h2).ext (Ext.add hp) (upd_ne fun e => h.live (List.mem_of_getElem? h2) (by rw [e]; exact hp))
  · rw [List.getElem?_append_right (by omega)] at h1
    rw [List.getElem?_append_right (by rw [← h.len]; omega), ← h.len] at h2
    cases q : n - s.length with
    | zero =>
      rw [q] at h1 h2
      cases h1
      cases h2
      exact hb
    | succ m => rw [q] at h1; simp at h1
end
/-! ### where one stands -/
structure WU where
  α0 : AM
  H0 : Hp
structure EnvU (K : PySem.W.Frag) (W : WU) (α : AM) (s : Sto) (Γ : List (Option U)) (σ : L2.St) (H : Hp) : Prop where
  len : Γ.length = σ.length
  loc : ∀ (i : Nat) (u : U), Γ[i]? = some (some u) → ∃ v, σ[i]? = some (some v) ∧ RpU K α H u v
  ok : SOk K α s H
  ext : Ext W.α0 W.H0 α H
section
variable {K : PySem.W.Frag} {W : WU} {α α' : AM} {s s' : Sto} {Γ : List (Option U)} {σ : L2.St} {H H' : Hp}
theorem EnvU.step (E : EnvU K W α s Γ σ H) (e : Ext α H α' H') (ok : SOk K α' s' H') : EnvU K W α' s' Γ σ H' := ⟨E.len, fun i u h => by
  obtain ⟨v, h1, h2⟩ := E.loc i u h
  exact ⟨v, h1, h2.ext e⟩, ok, E.ext.trans e⟩
theorem EnvU.set (E : EnvU K W α s Γ σ H) {i : Nat} {u : U} {v : V} (h : RpU K α H u v) : EnvU K W α s (Γ.set i (some u)) (σ.set i (some v)) H := ⟨by rw [List.length_set, List.length_set]; exact E.len, fun j w hj => by
  by_cases e : i = j
  · subst e
    by_cases hl : i < Γ.length
    · rw [List.getElem?_set_self hl] at hj
      cases hj
      exact ⟨v, List.getElem?_set_self (by rw [← E.len]; exact hl), h⟩
    · rw [List.getElem?_eq_none (by rw [List.length_set]; omega)] at hj
      cases hj
  · rw [List.getElem?_set_ne e] at hj
    rw [List.getElem?_set_ne e]
    exact E.loc j w hj, E.ok, E.ext⟩
end
section
variable (K : PySem.W.Frag)
def suE (te : TE) (s : Sto) (Γ : List (Option U)) (Post : Sto → U → Prop) : Prop := ∀ (W : WU) (α : AM) (σ : L2.St) (H : Hp) (Q : VK), EnvU K W α s Γ σ H → (∀ (α' : AM) (s' : Sto) (u : U) (v : V) (H' : Hp), Post s' u → Ext α H α' H' → EnvU K W α' s' Γ σ H' → RpU K α' H' u v → Q v H') → te σ H Q
def suA (ta : TA) (s : Sto) (Γ : List (Option U)) (Post : Sto → List U → Prop) : Prop := ∀ (W : WU) (α : AM) (σ : L2.St) (H : Hp) (Q : List V → Hp → Prop), EnvU K W α s Γ σ H → (∀ (α' : AM) (s' : Sto) (us : List U) (vs : List V) (H' : Hp), Post s' us → Ext α H α' H' → EnvU K W α' s' Γ σ H' → RpsU K α' H' us vs → Q vs H') → ta σ H Q
def suT (tt : TT) (s : Sto) (Γ : List (Option U)) (Post : Sto → Bool → Prop) : Prop := ∀ (W : WU) (α : AM) (σ : L2.St) (H : Hp) (Q : Bool → Hp → Prop), EnvU K W α s Γ σ H → (∀ (α' : AM) (s' : Sto) (b : Bool) (H' : Hp), Post s' b → Ext α H α' H' → EnvU K W α' s' Γ σ H' → Q b H') → tt σ H Q
def suR1 (r : V → Hp → VK → Prop) (x : U) (s : Sto) (Post : Sto → U → Prop) : Prop := ∀ (W : WU) (α : AM) (Γ : List (Option U)) (σ : L2.St) (H : Hp) (v : V) (Q : VK), EnvU K W α s Γ σ H → RpU K α H x v → (∀ (α' : AM) (s' : Sto) (u : U) (z : V) (H' : Hp), Post s' u → Ext α H α' H' → EnvU K W α' s' Γ σ H' → RpU K α' H' u z → Q z H') → r v H Q
def suR2 (r : R2) (x y : U) (s : Sto) (Post : Sto → U → Prop) : Prop := ∀ (W : WU) (α : AM) (Γ : List (Option U)) (σ : L2.St) (H : Hp) (v w : V) (Q : VK), EnvU K W α s Γ σ H → RpU K α H x v → RpU K α H y w → (∀ (α' : AM) (s' : Sto) (u : U) (z : V) (H' : Hp), Post s' u → Ext α H α' H' → EnvU K W α' s' Γ σ H' → RpU K α' H' u z → Q z H') → r v w H Q
def suRA (r : List V → Hp → VK → Prop) (xs : List U) (s : Sto) (Post : Sto → U → Prop) : Prop := ∀ (W : WU) (α : AM) (Γ : List (Option U)) (σ : L2.St) (H : Hp) (vs : List V) (Q : VK), EnvU K W α s Γ σ H → RpsU K α H xs vs → (∀ (α' : AM) (s' : Sto) (u : U) (z : V) (H' : Hp), Post s' u → Ext α H α' H' → EnvU K W α' s' Γ σ H' → RpU K α' H' u z → Q z H') → r vs H Q
structure EU where
  N : Sto → List (Option U) → Prop
  R : Sto → U → Prop
  Bk : Sto → List (Option U) → Prop := fun _ _ => False
  Ct : Sto → List (Option U) → Prop := fun _ _ => False
def FinU (W : WU) (s : Sto) (H : Hp) (u : U) (v : V) : Prop := ∃ α, SOk K α s H ∧ Ext W.α0 W.H0 α H ∧ RpU K α H u v
def suS (ts : TS) (s : Sto) (Γ : List (Option U)) (e : EU) : Prop := ∀ (W : WU) (α : AM) (σ : L2.St) (H : Hp) (D : Ends), EnvU K W α s Γ σ H →
  (∀ (α' : AM) (s' : Sto) (Γ' : List (Option U)) (σ' : L2.St) (H' : Hp), e.N s' Γ' → EnvU K W α' s' Γ' σ' H' → D.nx σ' H') → (∀ (s' : Sto) (u : U) (v : V) (H' : Hp), e.R s' u → FinU K W s' H' u v → D.rt v H') →
  (∀ (α' : AM) (s' : Sto) (Γ' : List (Option U)) (σ' : L2.St) (H' : Hp), e.Bk s' Γ' → EnvU K W α' s' Γ' σ' H' → D.bk σ' H') → (∀ (α' : AM) (s' : Sto) (Γ' : List (Option U)) (σ' : L2.St) (H' : Hp), e.Ct s' Γ' → EnvU K W α' s' Γ' σ' H' → D.ct σ' H') → ts D σ H
def suG (g : TG) (d : U) (s : Sto) (Γ : List (Option U)) (Post : Sto → List (Option U) → Prop) : Prop := ∀ (W : WU) (α : AM) (σ : L2.St) (H : Hp) (v : V) (Q : L2.St → Hp → Prop), EnvU K W α s Γ σ H → RpU K α H d v → (∀ (α' : AM) (s' : Sto) (Γ' : List (Option U)) (σ' : L2.St) (H' : Hp), Post s' Γ' → EnvU K W α' s' Γ' σ' H' → Q σ' H') → g v σ H Q
/-- a def over the store: Wp says what may come of it and the arguments -/
def SpU (Wp : Sto → List U → (Sto → U → Prop) → Prop) : Sp := fun vs H Q _ => ∃ (α : AM) (s : Sto) (us : List U) (R : Sto → U → Prop), SOk K α s H ∧ RpsU K α H us vs ∧ Wp s us R ∧ ∀ (s' : Sto) (u : U) (v : V) (H' : Hp), R s' u → FinU K ⟨α, H⟩ s' H' u v → Q v H'
end
section
variable {K : PySem.W.Frag} {s : Sto} {Γ : List (Option U)} {Post P : Sto → U → Prop} {te ta tb tc : TE} {t tr : TA} {c c1 c2 : TT} {t1 t2 : TS} {e : EU} {g : TG}
theorem suE.mono (h : suE K te s Γ P) (k : ∀ s b, P s b → Post s b) : suE K te s Γ Post := fun W α σ H Q E q => h W α σ H Q E fun α' s' u v H' p => q α' s' u v H' (k _ _ p)
theorem suS.mono {e' : EU} (h : suS K t1 s Γ e) (n : ∀ s g, e.N s g → e'.N s g) (r : ∀ s b, e.R s b → e'.R s b) (bk : ∀ s g, e.Bk s g → e'.Bk s g) (ct : ∀ s g, e.Ct s g → e'.Ct s g) : suS K t1 s Γ e' := fun W α σ H D E q1 q2 q3 q4 => h W α σ H D E (fun α s g σ' h z => q1 α s g σ' h (n s g z)) (fun s b v h z => q2 s b v h (r s b z)) (fun α s g σ' h z => q3 α s g σ' h (bk s g z)) fun α s g σ' h z => q4 α s g σ' h (ct s g z)
/-- the body of a def -/
theorem body {Wp : Sto → List U → (Sto → U → Prop) → Prop} {vs : List V} {H : Hp} {Q : VK} {E : XK} (h : SpU K Wp vs H Q E) (N : List Str) {ts : TS}
    (k : ∀ s us R, Wp s us R → us.length = vs.length → suS K ts s (us.map some ++ List.replicate (N.length - us.length) none) ⟨fun s _ => R s .non, R, fun _ _ => False, fun _ _ => False⟩) : ts { nx := fun _ H' => Q .non H', rt := Q } (L2.start N vs) H := by
  obtain ⟨α, s, us, R, ok, hR, hW, q⟩ := h
  have hl := ru_len hR
  refine k s us R hW hl ⟨α, H⟩ α _ H _ ⟨?_, fun i u hi => ?_, ok, Ext.refl⟩ (fun α' s' Γ' σ' H' r E' => q s' .non .non H' r ⟨α', E'.ok, E'.ext, ru_non.mpr rfl⟩) (fun s' u v H' r f => q s' u v H' r f) (fun _ _ _ _ _ f _ => f.elim) (fun _ _ _ _ _ f _ => f.elim)
  · unfold L2.start
    rw [List.length_append, List.length_append, List.length_map, List.length_map, List.length_replicate, List.length_replicate, hl]
  · by_cases hi' : i < us.length
    · rw [List.getElem?_append_left (by rw [List.length_map]; exact hi'), List.getElem?_map, List.getElem?_eq_getElem hi'] at hi
      cases hi
      obtain ⟨v, h3, h4⟩ := ru_at hR (List.getElem?_eq_getElem hi')
      refine ⟨v, ?_, h4⟩
      unfold L2.start
      rw [List.getElem?_append_left (by rw [List.length_map]; exact (List.getElem?_eq_some_iff.mp h3).1), List.getElem?_map, h3]
      rfl
    · rw [List.getElem?_append_right (by rw [List.length_map]; omega), List.getElem?_replicate] at hi
      split at hi
      · cases hi
      · cases hi
theorem spLen {Wp : Sto → List U → (Sto → U → Prop) → Prop} {n : Nat} (hn : ∀ s us R, Wp s us R → us.length = n) {vs : List V} {H : Hp} {Q : VK} {E : XK} (h : SpU K Wp vs H Q E) : vs.length = n := by
  obtain ⟨α, s, us, R, _, hR, hW, _⟩ := h
  rw [← ru_len hR]
  exact hn _ _ _ hW
/-! ### expressions -/
theorem var {i : Nat} {b : U} (h : Γ[i]? = some (some b)) (q : Post s b) : suE K (tVar i) s Γ Post := fun W α σ H Q E k => by
  obtain ⟨v, h1, h2⟩ := E.loc i b h
  exact ⟨v, h1, k α s b v H q Ext.refl E h2⟩
instance st_var {i : Nat} {b : U} [h : BVAt Γ i (some b)] : BVSt (suE K (tVar i) s Γ Post) (Post s b) := ⟨fun q => var h.eq q⟩
theorem cRaw {v : V} (q : Post s (.raw v)) : suE K (tC v) s Γ Post := fun W α σ H Q E k => k α s _ v H q Ext.refl E (ru_raw.mpr rfl)
theorem cInt {i : Int} (q : Post s (.int i)) : suE K (tC (.int i)) s Γ Post := fun W α σ H Q E k => k α s _ _ H q Ext.refl E (ru_int.mpr rfl)
theorem cStr {x : Str} (q : Post s (.str x)) : suE K (tC (.str x)) s Γ Post := fun W α σ H Q E k => k α s _ _ H q Ext.refl E (ru_str.mpr rfl)
theorem cBl {b : Bool} (q : Post s (.bl b)) : suE K (tC (.bl b)) s Γ Post := fun W α σ H Q E k => k α s _ _ H q Ext.refl E (ru_bl.mpr rfl)
theorem cNon (q : Post s .non) : suE K (tC .non) s Γ Post := fun W α σ H Q E k => k α s _ _ H q Ext.refl E (ru_non.mpr rfl)
instance st_cInt {i : Int} : BVSt (suE K (tC (.int i)) s Γ Post) (Post s (.int i)) := ⟨fun h => cInt h⟩
instance st_cStr {x : Str} : BVSt (suE K (tC (.str x)) s Γ Post) (Post s (.str x)) := ⟨fun h => cStr h⟩
instance st_cBl {b : Bool} : BVSt (suE K (tC (.bl b)) s Γ Post) (Post s (.bl b)) := ⟨fun h => cBl h⟩
instance st_cNon : BVSt (suE K (tC .non) s Γ Post) (Post s .non) := ⟨fun h => cNon h⟩
instance (priority := low) st_cRaw {v : V} : BVSt (suE K (tC v) s Γ Post) (Post s (.raw v)) := ⟨fun h => cRaw h⟩
theorem nil {Post : Sto → List U → Prop} (q : Post s []) : suA K tNil s Γ Post := fun W α σ H Q E k => k α s [] [] H q Ext.refl E (ru_nil.mpr rfl)
instance st_nil {Post : Sto → List U → Prop} : BVSt (suA K tNil s Γ Post) (Post s []) := ⟨fun h => nil h⟩
theorem cons {Post : Sto → List U → Prop} (h : suE K ta s Γ fun s1 x => suA K tr s1 Γ fun s2 xs => Post s2 (x :: xs)) : suA K (tCons ta tr) s Γ Post := fun W α σ H Q E k =>
  h W α σ H _ E fun α1 s1 x v H1 p1 k1 E1 r1 => p1 W α1 σ H1 _ E1 fun α2 s2 xs vs H2 p2 k2 E2 r2 => k α2 s2 (x :: xs) (v :: vs) H2 p2 (k1.trans k2) E2 (ru_cons.mpr ⟨v, vs, rfl, r1.ext k2, r2⟩)
instance st_cons {Post : Sto → List U → Prop} : BVSt (suA K (tCons ta tr) s Γ Post) (suE K ta s Γ fun s1 x => suA K tr s1 Γ fun s2 xs => Post s2 (x :: xs)) := ⟨fun h => cons h⟩
theorem tup (h : suA K t s Γ fun s1 xs => xs.length ≤ sizeLine ∧ Post s1 (.tup xs)) : suE K (tTup t) s Γ Post := fun W α σ H Q E k =>
  RD.tup (h W α σ H _ E fun α1 s1 xs vs H1 p k1 E1 r => ⟨by rw [← ru_len r]; exact p.1, fun q hq => k α1 s1 _ _ _ p.2 (k1.trans (Ext.put hq)) (E1.step (Ext.put hq) (E1.ok.nw hq)) (ru_tup.mpr ⟨q, vs, rfl, .inl ⟨upd_same, E1.ok.off hq⟩, r.ext (Ext.put hq)⟩)⟩)
instance st_tup : BVSt (suE K (tTup t) s Γ Post) (suA K t s Γ fun s1 xs => xs.length ≤ sizeLine ∧ Post s1 (.tup xs)) := ⟨fun h => tup h⟩
/-- a list: a new thing of the store -/
theorem lst (h : suA K t s Γ fun s1 xs => xs.length ≤ sizeLine ∧ Post (s1 ++ [.lst xs]) (.rf s1.length)) : suE K (tLst t) s Γ Post := fun W α σ H Q E k =>
  RD.lst (h W α σ H _ E fun α1 s1 xs vs H1 p k1 E1 r => ⟨by rw [← ru_len r]; exact p.1, fun q hq => k (α1 ++ [q]) _ _ _ _ p.2 (k1.trans (Ext.add hq)) (E1.step (Ext.add hq) (E1.ok.add hq ⟨vs, upd_same, r.ext (Ext.add hq)⟩)) (ru_rf.mpr ⟨q, by rw [E1.ok.len]; simp, rfl⟩)⟩)
instance st_lst : BVSt (suE K (tLst t) s Γ Post) (suA K t s Γ fun s1 xs => xs.length ≤ sizeLine ∧ Post (s1 ++ [.lst xs]) (.rf s1.length)) := ⟨fun h => lst h⟩
instance st_le {l : List U} {A : Prop} [h : BVLe l 1000] : BVSt (l.length ≤ sizeLine ∧ A) A := ⟨fun q => ⟨BV.le_line, q⟩⟩
instance st_lt {l : List U} {A : Prop} [h : BVLe l 1000] : BVSt (l.length < sizeLine ∧ A) A := ⟨fun q => ⟨Nat.lt_of_le_of_lt h.le (by rw [sizeLine_eq]; decide), q⟩⟩
theorem op {r : R2} (h : suE K ta s Γ fun s1 x => suE K tb s1 Γ fun s2 y => suR2 K r x y s2 Post) : suE K (tOp r ta tb) s Γ Post := fun W α σ H Q E k =>
  RD.op (h W α σ H _ E fun α1 s1 x v H1 p1 k1 E1 r1 => p1 W α1 σ H1 _ E1 fun α2 s2 y u H2 p2 k2 E2 r2 => p2 W α2 Γ σ H2 v u Q E2 (r1.ext k2) r2 fun α3 s3 b z H3 pb k3 => k α3 s3 b z H3 pb (k1.trans (k2.trans k3)))
instance st_op {r : R2} : BVSt (suE K (tOp r ta tb) s Γ Post) (suE K ta s Γ fun s1 x => suE K tb s1 Γ fun s2 y => suR2 K r x y s2 Post) := ⟨fun h => op h⟩
theorem un {r : V → Hp → VK → Prop} (h : suE K ta s Γ fun s1 x => suR1 K r x s1 Post) : suE K (tUn r ta) s Γ Post := fun W α σ H Q E k =>
  RD.un (h W α σ H _ E fun α1 s1 x v H1 p1 k1 E1 r1 => p1 W α1 Γ σ H1 v Q E1 r1 fun α3 s3 b z H3 pb k3 => k α3 s3 b z H3 pb (k1.trans k3))
instance st_un {r : V → Hp → VK → Prop} : BVSt (suE K (tUn r ta) s Γ Post) (suE K ta s Γ fun s1 x => suR1 K r x s1 Post) := ⟨fun h => un h⟩
theorem cb {r : List V → Hp → VK → Prop} (h : suA K t s Γ fun s1 xs => suRA K r xs s1 Post) : suE K (tCB r t) s Γ Post := fun W α σ H Q E k =>
  RD.cb (h W α σ H _ E fun α1 s1 xs vs H1 p1 k1 E1 r1 => p1 W α1 Γ σ H1 vs Q E1 r1 fun α3 s3 b z H3 pb k3 => k α3 s3 b z H3 pb (k1.trans k3))
instance st_cb {r : List V → Hp → VK → Prop} : BVSt (suE K (tCB r t) s Γ Post) (suA K t s Γ fun s1 xs => suRA K r xs s1 Post) := ⟨fun h => cb h⟩
theorem call {Wp : Sto → List U → (Sto → U → Prop) → Prop} {E : XK} (h : suA K t s Γ fun s1 us => Wp s1 us Post) : suE K (tCall (SpU K Wp) [] E t) s Γ Post := fun W α σ H Q Ev k =>
  RD.call (h W α σ H _ Ev fun α1 s1 us vs H1 p1 k1 E1 r1 => ⟨α1, s1, us, Post, E1.ok, r1, p1, fun s2 u v H2 pb ⟨α2, ok2, k2, r2⟩ => k α2 s2 u v H2 pb (k1.trans k2) (E1.step k2 ok2) r2⟩)
instance st_call {Wp : Sto → List U → (Sto → U → Prop) → Prop} {E : XK} : BVSt (suE K (tCall (SpU K Wp) [] E t) s Γ Post) (suA K t s Γ fun s1 us => Wp s1 us Post) := ⟨fun h => call h⟩
theorem iteS {b : Bool} {A B : Prop} (h : if b = true then A else B) : (b = true → A) ∧ (b = false → B) := ⟨fun e => by rwa [if_pos e] at h, fun e => by rwa [if_neg (by rw [e]; decide)] at h⟩
theorem ifE (h : suT K c s Γ fun s1 b => if b = true then suE K ta s1 Γ Post else suE K tb s1 Γ Post) : suE K (tIf c ta tb) s Γ Post := fun W α σ H Q E k =>
  RD.if_ (h W α σ H _ E fun α1 s1 b H1 p k1 E1 => by
    obtain ⟨a1, a2⟩ := iteS p
    cases b with
    | true => rw [if_pos rfl]; exact a1 rfl W α1 σ H1 Q E1 fun α2 s2 b v H2 pb k2 => k α2 s2 b v H2 pb (k1.trans k2)
    | false => rw [if_neg Bool.false_ne_true]; exact a2 rfl W α1 σ H1 Q E1 fun α2 s2 b v H2 pb k2 => k α2 s2 b v H2 pb (k1.trans k2))
instance st_ifE : BVSt (suE K (tIf c ta tb) s Γ Post) (suT K c s Γ fun s1 b => if b = true then suE K ta s1 Γ Post else suE K tb s1 Γ Post) := ⟨fun h => ifE h⟩
/-! ### tests -/
theorem tB_ {PB : Sto → Bool → Prop} (h : suE K ta s Γ fun s1 x => ∃ c, x = .bl c ∧ PB s1 c) : suT K (tB ta) s Γ PB := fun W α σ H Q E k =>
  RD.B_ (h W α σ H _ E fun α1 s1 x v H1 p k1 E1 r1 => by
    obtain ⟨c, rfl, p⟩ := p
    exact ⟨c, ru_bl.mp r1, k α1 s1 c H1 p k1 E1⟩)
instance st_tB_ {PB : Sto → Bool → Prop} : BVSt (suT K (tB ta) s Γ PB) (suE K ta s Γ fun s1 x => ∃ c, x = .bl c ∧ PB s1 c) := ⟨fun h => tB_ h⟩
theorem test {PB : Sto → Bool → Prop} (h : suE K ta s Γ fun s1 x => ∃ c, x = .bl c ∧ PB s1 c) : suT K (tTest ta) s Γ PB := tB_ h
instance st_test {PB : Sto → Bool → Prop} : BVSt (suT K (tTest ta) s Γ PB) (suE K ta s Γ fun s1 x => ∃ c, x = .bl c ∧ PB s1 c) := ⟨fun h => test h⟩
theorem and_ {PB : Sto → Bool → Prop} (h : suT K c1 s Γ fun s1 b => if b = true then suT K c2 s1 Γ PB else PB s1 false) : suT K (tAnd c1 c2) s Γ PB := fun W α σ H Q E k =>
  RD.and_ (h W α σ H _ E fun α1 s1 b H1 p k1 E1 => by
    obtain ⟨a1, a2⟩ := iteS p
    cases b with
    | true => rw [if_pos rfl]; exact a1 rfl W α1 σ H1 Q E1 fun α2 s2 b H2 pb k2 => k α2 s2 b H2 pb (k1.trans k2)
    | false => rw [if_neg Bool.false_ne_true]; exact k α1 s1 _ H1 (a2 rfl) k1 E1)
instance st_and_ {PB : Sto → Bool → Prop} : BVSt (suT K (tAnd c1 c2) s Γ PB) (suT K c1 s Γ fun s1 b => if b = true then suT K c2 s1 Γ PB else PB s1 false) := ⟨fun h => and_ h⟩
theorem or_ {PB : Sto → Bool → Prop} (h : suT K c1 s Γ fun s1 b => if b = true then PB s1 true else suT K c2 s1 Γ PB) : suT K (tOr c1 c2) s Γ PB := fun W α σ H Q E k =>
  RD.or_ (h W α σ H _ E fun α1 s1 b H1 p k1 E1 => by
    obtain ⟨a1, a2⟩ := iteS p
    cases b with
    | true => rw [if_pos rfl]; exact k α1 s1 _ H1 (a1 rfl) k1 E1
    | false => rw [if_neg Bool.false_ne_true]; exact a2 rfl W α1 σ H1 Q E1 fun α2 s2 b H2 pb k2 => k α2 s2 b H2 pb (k1.trans k2))
instance st_or_ {PB : Sto → Bool → Prop} : BVSt (suT K (tOr c1 c2) s Γ PB) (suT K c1 s Γ fun s1 b => if b = true then PB s1 true else suT K c2 s1 Γ PB) := ⟨fun h => or_ h⟩
theorem not_ {PB : Sto → Bool → Prop} (h : suT K c1 s Γ fun s1 b => PB s1 (!b)) : suT K (tNot c1) s Γ PB := fun W α σ H Q E k => RD.not_ (h W α σ H _ E fun α1 s1 b H1 p => k α1 s1 _ H1 p)
instance st_not_ {PB : Sto → Bool → Prop} : BVSt (suT K (tNot c1) s Γ PB) (suT K c1 s Γ fun s1 b => PB s1 (!b)) := ⟨fun h => not_ h⟩
theorem yes {PB : Sto → Bool → Prop} (h : PB s true) : suT K tYes s Γ PB := fun W α σ H Q E k => RD.yes (k α s true H h Ext.refl E)
instance st_yes {PB : Sto → Bool → Prop} : BVSt (suT K tYes s Γ PB) (PB s true) := ⟨fun h => yes h⟩
/-! ### statements -/
theorem seq (h : suS K t1 s Γ { e with N := fun s g => suS K t2 s g e }) : suS K (tSeq t1 t2) s Γ e := fun W α σ H D E q1 q2 q3 q4 =>
  RD.seq (h W α σ H ⟨t2 D, D.rt, D.bk, D.ct⟩ E (fun α' s' g σ' h' z E' => z W α' σ' h' D E' q1 q2 q3 q4) q2 q3 q4)
instance st_seq : BVSt (suS K (tSeq t1 t2) s Γ e) (suS K t1 s Γ { e with N := fun s g => suS K t2 s g e }) := ⟨fun h => seq h⟩
theorem next (h : e.N s Γ) : suS K tNext s Γ e := fun W α σ H D E q1 q2 q3 q4 => q1 α s Γ σ H h E
instance st_next : BVSt (suS K tNext s Γ e) (e.N s Γ) := ⟨fun h => next h⟩
theorem ret (h : suE K te s Γ e.R) : suS K (tRet te) s Γ e := fun W α σ H D E q1 q2 q3 q4 =>
  RD.ret (h W α σ H _ E fun α1 s1 b v H1 p k1 E1 r1 => q2 s1 b v H1 p ⟨α1, E1.ok, E1.ext, r1⟩)
instance st_ret : BVSt (suS K (tRet te) s Γ e) (suE K te s Γ e.R) := ⟨fun h => ret h⟩
theorem retN (h : e.R s .non) : suS K tRetN s Γ e := fun W α σ H D E q1 q2 q3 q4 => RD.retN (q2 s .non .non H h ⟨α, E.ok, E.ext, ru_non.mpr rfl⟩)
instance st_retN : BVSt (suS K tRetN s Γ e) (e.R s .non) := ⟨fun h => retN h⟩
theorem gname {d : U} {i : Nat} {Pg : Sto → List (Option U) → Prop} (h : Pg s (Γ.set i (some d))) : suG K (gName i) d s Γ Pg := fun W α σ H v Q E r q => RD.gname (q α s _ _ H h (E.set r))
instance st_gname {d : U} {i : Nat} {Pg : Sto → List (Option U) → Prop} : BVSt (suG K (gName i) d s Γ Pg) (Pg s (Γ.set i (some d))) := ⟨fun h => gname h⟩
theorem asgG (h : suE K te s Γ fun s1 b => suG K g b s1 Γ e.N) : suS K (tAsg te g) s Γ e := fun W α σ H D E q1 q2 q3 q4 =>
  h W α σ H _ E fun α1 s1 b v H1 p k1 E1 r1 => p W α1 σ H1 v _ E1 r1 q1
instance st_asgG : BVSt (suS K (tAsg te g) s Γ e) (suE K te s Γ fun s1 b => suG K g b s1 Γ e.N) := ⟨fun h => asgG h⟩
theorem drop (h : suE K te s Γ fun s1 _ => e.N s1 Γ) : suS K (tDrop te) s Γ e := fun W α σ H D E q1 q2 q3 q4 =>
  h W α σ H _ E fun α1 s1 b v H1 p k1 E1 r1 => q1 α1 s1 Γ σ H1 p E1
instance st_drop : BVSt (suS K (tDrop te) s Γ e) (suE K te s Γ fun s1 _ => e.N s1 Γ) := ⟨fun h => drop h⟩
theorem ifS (h : suT K c s Γ fun s1 b => if b = true then suS K t1 s1 Γ e else suS K t2 s1 Γ e) : suS K (tIfS c t1 t2) s Γ e := fun W α σ H D E q1 q2 q3 q4 =>
  RD.ifS (h W α σ H _ E fun α1 s1 b H1 p k1 E1 => by
    obtain ⟨a1, a2⟩ := iteS p
    cases b with
    | true => rw [if_pos rfl]; exact a1 rfl W α1 σ H1 D E1 q1 q2 q3 q4
    | false => rw [if_neg Bool.false_ne_true]; exact a2 rfl W α1 σ H1 D E1 q1 q2 q3 q4)
instance st_ifS : BVSt (suS K (tIfS c t1 t2) s Γ e) (suT K c s Γ fun s1 b => if b = true then suS K t1 s1 Γ e else suS K t2 s1 Γ e) := ⟨fun h => ifS h⟩
/-- what holds behind a statement, told once -/
theorem join (I : Sto → List (Option U) → Prop) (h : suS K t1 s Γ { e with N := I }) (k : ∀ s g, I s g → e.N s g) : suS K t1 s Γ e := h.mono k (fun _ _ z => z) (fun _ _ z => z) fun _ _ z => z
end
end SL
set_option Elab.async false
set_option linter.all false
set_option maxRecDepth 100000
set_option maxHeartbeats 4000000
/-! over the store: operators, lists, tuples, dicts, fields, loops -/
instance bvAt_app {α : Type} {l r : List α} {i : Nat} {x : α} [h : BVAt l i x] : BVAt (l ++ r) i x := ⟨by rw [List.getElem?_append_left (List.getElem?_eq_some_iff.mp h.eq).1]; exact h.eq⟩
instance bvAt_len {α : Type} {l : List α} {x : α} : BVAt (l ++ [x]) l.length x := ⟨by rw [List.getElem?_append_right (Nat.le_refl _), Nat.sub_self]; rfl⟩
instance bvNe_at {α : Type} {l : List α} {i : Nat} {x : α} [h : BVAt l i x] : BVNe i l.length := ⟨Nat.ne_of_lt (List.getElem?_eq_some_iff.mp h.eq).1⟩
instance bvNe_at' {α : Type} {l : List α} {i : Nat} {x : α} [h : BVAt l i x] : BVNe l.length i := ⟨Nat.ne_of_gt (List.getElem?_eq_some_iff.mp h.eq).1⟩
namespace SL
open PySem PySem.Spec PyProof.Rows L2 G0
section
variable {K : PySem.W.Frag} {s : Sto} {Γ : List (Option U)} {Post P : Sto → U → Prop} {te ta tb tc td ty tv : TE} {t tr : TA} {c c1 c2 : TT} {t1 t2 : TS} {e : EU} {g : TG} {gs : TGs} {α α' : AM} {H H' : Hp}
/-! ### numbers, texts, truths -/
theorem i0 {f : Int → Int → Int} {i j : Int} (q : Post s (.int (f i j))) : suR2 K (rI0 fun i j => .int (f i j)) (.int i) (.int j) s Post := fun W α Γ σ H v w Q E r1 r2 k => by
  rw [ru_int.mp r1, ru_int.mp r2]
  exact RD.i0 (k α s _ _ H q Ext.refl E (ru_int.mpr rfl))
instance st_i0 {f : Int → Int → Int} {i j : Int} : BVSt (suR2 K (rI0 fun i j => .int (f i j)) (.int i) (.int j) s Post) (Post s (.int (f i j))) := ⟨fun q => i0 q⟩
theorem i0b {f : Int → Int → Bool} {i j : Int} (q : Post s (.bl (f i j))) : suR2 K (rI0 fun i j => .bl (f i j)) (.int i) (.int j) s Post := fun W α Γ σ H v w Q E r1 r2 k => by
  rw [ru_int.mp r1, ru_int.mp r2]
  exact RD.i0 (k α s _ _ H q Ext.refl E (ru_bl.mpr rfl))
instance st_i0b {f : Int → Int → Bool} {i j : Int} : BVSt (suR2 K (rI0 fun i j => .bl (f i j)) (.int i) (.int j) s Post) (Post s (.bl (f i j))) := ⟨fun q => i0b q⟩
/-- flat data -/
def fl : U → Option V
  | .non => some .non
  | .bl b => some (.bl b)
  | .int i => some (.int i)
  | .str x => some (.str x)
  | _ => none
theorem fl_rp {x : U} {v w : V} (h : fl x = some v) (r : RpU K α H x w) : w = v := by
  cases x with
  | non => cases h; exact ru_non.mp r
  | bl b => cases h; exact ru_bl.mp r
  | int i => cases h; exact ru_int.mp r
  | str z => cases h; exact ru_str.mp r
  | _ => cases h
theorem eqS {x y : Str} (q : Post s (.bl (decide (x = y)))) : suR2 K rEq (.str x) (.str y) s Post := fun W α Γ σ H v w Q E r1 r2 k => by
  rw [ru_str.mp r1, ru_str.mp r2]
  exact RD.eqS (k α s _ _ H q Ext.refl E (ru_bl.mpr rfl))
instance st_eqS {x y : Str} : BVSt (suR2 K rEq (.str x) (.str y) s Post) (Post s (.bl (decide (x = y)))) := ⟨fun q => eqS q⟩
theorem eqI {x y : Int} (q : Post s (.bl (decide (x = y)))) : suR2 K rEq (.int x) (.int y) s Post := fun W α Γ σ H v w Q E r1 r2 k => by
  rw [ru_int.mp r1, ru_int.mp r2]
  exact RD.eqI (k α s _ _ H q Ext.refl E (ru_bl.mpr rfl))
instance st_eqI {x y : Int} : BVSt (suR2 K rEq (.int x) (.int y) s Post) (Post s (.bl (decide (x = y)))) := ⟨fun q => eqI q⟩
theorem neS {x y : Str} (q : Post s (.bl (!decide (x = y)))) : suR2 K rNe (.str x) (.str y) s Post := fun W α Γ σ H v w Q E r1 r2 k => by
  rw [ru_str.mp r1, ru_str.mp r2]
  exact RD.neS (k α s _ _ H q Ext.refl E (ru_bl.mpr rfl))
instance st_neS {x y : Str} : BVSt (suR2 K rNe (.str x) (.str y) s Post) (Post s (.bl (!decide (x = y)))) := ⟨fun q => neS q⟩
theorem neI {x y : Int} (q : Post s (.bl (!decide (x = y)))) : suR2 K rNe (.int x) (.int y) s Post := fun W α Γ σ H v w Q E r1 r2 k => by
  rw [ru_int.mp r1, ru_int.mp r2]
  exact RD.neI (k α s _ _ H q Ext.refl E (ru_bl.mpr rfl))
instance st_neI {x y : Int} : BVSt (suR2 K rNe (.int x) (.int y) s Post) (Post s (.bl (!decide (x = y)))) := ⟨fun q => neI q⟩
/-- any flat data that may be asked for equality -/
theorem eqF {x y : U} {v w : V} (hx : fl x = some v) (hy : fl y = some w) (hs : scal v w = true) (q : Post s (.bl (decide (v = w)))) : suR2 K rEq x y s Post := fun W α Γ σ H v' w' Q E r1 r2 k => by
  rw [fl_rp hx r1, fl_rp hy r2]
  exact ⟨hs, k α s _ _ H q Ext.refl E (ru_bl.mpr rfl)⟩
def isNon : U → Option Bool
  | .non => some true
  | .raw _ => none
  | _ => some false
theorem isN {x : U} {b : Bool} (h : isNon x = some b) (q : Post s (.bl b)) : suR2 K rIsN x .non s Post := fun W α Γ σ H v w Q E r1 r2 k => by
  rw [ru_non.mp r2]
  have kk := k α s (.bl b) (.bl b) H q Ext.refl E (ru_bl.mpr rfl)
  cases x with
  | non => cases h; rw [ru_non.mp r1]; exact RD.isN_n kk
  | bl b => cases h; rw [ru_bl.mp r1]; exact RD.isN_b kk
  | int i => cases h; rw [ru_int.mp r1]; exact RD.isN_i kk
  | str z => cases h; rw [ru_str.mp r1]; exact RD.isN_s kk
  | tup ds => cases h; obtain ⟨p, _, rfl, _⟩ := ru_tup.mp r1; exact RD.isN_r kk
  | rf n => cases h; obtain ⟨p, _, rfl⟩ := ru_rf.mp r1; exact RD.isN_r kk
  | raw v => cases h
instance st_isN_non : BVSt (suR2 K rIsN .non .non s Post) (Post s (.bl true)) := ⟨fun q => isN rfl q⟩
instance st_isN_str {x : Str} : BVSt (suR2 K rIsN (.str x) .non s Post) (Post s (.bl false)) := ⟨fun q => isN rfl q⟩
instance st_isN_tup {x : List U} : BVSt (suR2 K rIsN (.tup x) .non s Post) (Post s (.bl false)) := ⟨fun q => isN rfl q⟩
instance st_isN_rf {x : Nat} : BVSt (suR2 K rIsN (.rf x) .non s Post) (Post s (.bl false)) := ⟨fun q => isN rfl q⟩
theorem exBl {b : Bool} {F : Bool → Prop} (q : F b) : ∃ c, U.bl b = .bl c ∧ F c := ⟨b, rfl, q⟩
instance st_exBl {b : Bool} {F : Bool → Prop} : BVSt (∃ c, U.bl b = .bl c ∧ F c) (F b) := ⟨fun q => exBl q⟩
instance st_exInt {b : Int} {F : Int → Prop} : BVSt (∃ c, U.int b = .int c ∧ F c) (F b) := ⟨fun q => ⟨b, rfl, q⟩⟩
instance st_exStr {b : Str} {F : Str → Prop} : BVSt (∃ c, U.str b = .str c ∧ F c) (F b) := ⟨fun q => ⟨b, rfl, q⟩⟩
instance st_exTup {b : List U} {F : List U → Prop} : BVSt (∃ c, U.tup b = .tup c ∧ F c) (F b) := ⟨fun q => ⟨b, rfl, q⟩⟩
/-! ### tuples -/
theorem at_atI {α : Type} {l : List α} {i : Int} {x : α} (h : atI l i = some x) : ∃ n, ixN l.length i = some n ∧ l[n]? = some x := by
  unfold atI at h
  cases e : ixN l.length i with
  | none => rw [e] at h; cases h
  | some n => rw [e] at h; exact ⟨n, rfl, h⟩
theorem atI_of {α : Type} {l : List α} {i : Int} {n : Nat} {x : α} (h : ixN l.length i = some n) (k : l[n]? = some x) : atI l i = some x := by unfold atI; rw [h]; exact k
theorem ru_atI {ds : List U} {vs : List V} {i : Int} {d : U} (r : RpsU K α H ds vs) (h : atI ds i = some d) : ∃ v, atI vs i = some v ∧ RpU K α H d v := by
  obtain ⟨n, h1, h2⟩ := at_atI h
  obtain ⟨v, h3, h4⟩ := ru_at r h2
  exact ⟨v, atI_of (by rw [← ru_len r]; exact h1) h3, h4⟩
theorem ixT {ds : List U} {i : Int} {d : U} (h : atI ds i = some d) (q : Post s d) : suR2 K (rIxT K) (.tup ds) (.int i) s Post := fun W α Γ σ H v w Q E r1 r2 k => by
  rw [ru_int.mp r2]
  obtain ⟨p, vs, rfl, h1, h2⟩ := ru_tup.mp r1
  obtain ⟨u, h3, h4⟩ := ru_atI h2 h
  exact RD.ixT h1.sq h3 (k α s d u H q Ext.refl E h4)
theorem atN {α : Type} {l : List α} {n : Nat} {x : α} (h : l[n]? = some x) : atI l (n : Int) = some x := BV.at_n h
instance st_ixT {ds : List U} {i : Nat} {d : U} [h : BVAt ds i d] : BVSt (suR2 K (rIxT K) (.tup ds) (.int (OfNat.ofNat i)) s Post) (Post s d) := ⟨fun q => ixT (atN h.eq) q⟩
theorem lenT {ds : List U} (q : Post s (.int (ds.length : Nat))) : suRA K (SF.rLenQ K) [.tup ds] s Post := fun W α Γ σ H vs Q E r k => by
  obtain ⟨v, r', rfl, r1, r2⟩ := ru_cons.mp r
  obtain rfl := ru_nil.mp r2
  obtain ⟨p, ws, rfl, h1, h2⟩ := ru_tup.mp r1
  exact SF.lenQt h1.sq (k α s _ _ H q Ext.refl E (ru_int.mpr (by rw [ru_len h2])))
instance st_lenT {ds : List U} : BVSt (suRA K (SF.rLenQ K) [.tup ds] s Post) (Post s (.int (ds.length : Nat))) := ⟨fun q => lenT q⟩
/-! ### lists of the store -/
theorem lst_at {n : Nat} {ds : List U} {v : V} (ok : SOk K α s H) (h : s[n]? = some (.lst ds)) (r : RpU K α H (.rf n) v) : ∃ a vs, v = .ref a ∧ α[n]? = some a ∧ H a = some (.lst vs) ∧ RpsU K α H ds vs := by
  obtain ⟨a, h1, rfl⟩ := ru_rf.mp r
  obtain ⟨vs, h2, h3⟩ := ok.ob n _ a h h1
  exact ⟨a, vs, rfl, h1, h2, h3⟩
theorem ixL {n : Nat} {ds : List U} {i : Int} {d : U} (hs : s[n]? = some (.lst ds)) (h : atI ds i = some d) (q : Post s d) : suR2 K (rIxL K) (.rf n) (.int i) s Post := fun W α Γ σ H v w Q E r1 r2 k => by
  rw [ru_int.mp r2]
  obtain ⟨a, vs, rfl, h1, h2, h3⟩ := lst_at E.ok hs r1
  obtain ⟨u, h4, h5⟩ := ru_atI h3 h
  exact RD.ixL (SqL.of h2) h4 (k α s d u H q Ext.refl E h5)
instance st_ixL {n : Nat} {ds : List U} {i : Nat} {d : U} [hs : BVAt s n (.lst ds)] [h : BVAt ds i d] : BVSt (suR2 K (rIxL K) (.rf n) (.int (OfNat.ofNat i)) s Post) (Post s d) := ⟨fun q => ixL hs.eq (atN h.eq) q⟩
theorem lenL {n : Nat} {ds : List U} (hs : s[n]? = some (.lst ds)) (q : Post s (.int (ds.length : Nat))) : suRA K (SF.rLenQ K) [.rf n] s Post := fun W α Γ σ H vs Q E r k => by
  obtain ⟨v, r', rfl, r1, r2⟩ := ru_cons.mp r
  obtain rfl := ru_nil.mp r2
  obtain ⟨a, ws, rfl, h1, h2, h3⟩ := lst_at E.ok hs r1
  exact SF.lenQl (SqL.of h2) (k α s _ _ H q Ext.refl E (ru_int.mpr (by rw [ru_len h3])))
instance st_lenL {n : Nat} {ds : List U} [hs : BVAt s n (.lst ds)] : BVSt (suRA K (SF.rLenQ K) [.rf n] s Post) (Post s (.int (ds.length : Nat))) := ⟨fun q => lenL hs.eq q⟩
/-- a change of a list -/
theorem chgL {W : WU} {σ : L2.St} {n : Nat} {a : Addr} {vs : List V} {ds : List U} (E : EnvU K W α s Γ σ H) (hn : α[n]? = some a) (r : RpsU K α H ds vs) : Ext α H α (upd H a (.lst vs)) ∧ EnvU K W α (s.set n (.lst ds)) Γ σ (upd H a (.lst vs)) := by
  have e := Ext.chg (H := H) (u := .lst vs) (List.mem_of_getElem? hn)
  exact ⟨e, E.step e (E.ok.chg hn ⟨vs, upd_same, r.ext e⟩)⟩
def LstAt (s : Sto) (x : U) : Prop := ∃ n ds, x = .rf n ∧ s[n]? = some (.lst ds)
theorem lstAt_and {n : Nat} {ds : List U} {A : Prop} (h : s[n]? = some (.lst ds)) (a : A) : LstAt s (.rf n) ∧ A := ⟨⟨n, ds, rfl, h⟩, a⟩
instance st_lstAt {n : Nat} {ds : List U} {A : Prop} [h : BVAt s n (.lst ds)] : BVSt (LstAt s (.rf n) ∧ A) A := ⟨fun a => lstAt_and h.eq a⟩
def suM (K : PySem.W.Frag) (r : V → List V → Hp → VK → Prop) (x : U) (ys : List U) (s : Sto) (Post : Sto → U → Prop) : Prop := ∀ (W : WU) (α : AM) (Γ : List (Option U)) (σ : L2.St) (H : Hp) (v : V) (vs : List V) (Q : VK), EnvU K W α s Γ σ H → RpU K α H x v → RpsU K α H ys vs → (∀ (α' : AM) (s' : Sto) (u : U) (z : V) (H' : Hp), Post s' u → Ext α H α' H' → EnvU K W α' s' Γ σ H' → RpU K α' H' u z → Q z H') → r v vs H Q
/-- a method of a list -/
theorem bm {r : V → List V → Hp → VK → Prop} (h : suE K ta s Γ fun s1 x => LstAt s1 x ∧ suA K t s1 Γ fun s2 ys => suM K r x ys s2 Post) : suE K (tBM K "list" r ta t) s Γ Post := fun W α σ H Q E k =>
  RD.bm (h W α σ H _ E fun α1 s1 x v H1 p1 k1 E1 r1 => by
    obtain ⟨⟨n, ds, rfl, hs⟩, p1⟩ := p1
    obtain ⟨a, vs, rfl, h1, h2, h3⟩ := lst_at E1.ok hs r1
    exact ⟨.inl ⟨rfl, vs, SqL.of h2⟩, p1 W α1 σ H1 _ E1 fun α2 s2 ys ws H2 p2 k2 E2 r2 => p2 W α2 Γ σ H2 _ ws Q E2 (r1.ext k2) r2 fun α3 s3 u z H3 pb k3 => k α3 s3 u z H3 pb (k1.trans (k2.trans k3))⟩)
instance st_bm {r : V → List V → Hp → VK → Prop} : BVSt (suE K (tBM K "list" r ta t) s Γ Post) (suE K ta s Γ fun s1 x => LstAt s1 x ∧ suA K t s1 Γ fun s2 ys => suM K r x ys s2 Post) := ⟨fun h => bm h⟩
theorem bm0 {r : V → List V → Hp → VK → Prop} (h : suE K ta s Γ fun s1 x => LstAt s1 x ∧ suM K r x [] s1 Post) : suE K (tBM0 K "list" r ta) s Γ Post := fun W α σ H Q E k =>
  RD.bm0 (h W α σ H _ E fun α1 s1 x v H1 p1 k1 E1 r1 => by
    obtain ⟨⟨n, ds, rfl, hs⟩, p1⟩ := p1
    obtain ⟨a, vs, rfl, h1, h2, h3⟩ := lst_at E1.ok hs r1
    exact ⟨.inl ⟨rfl, vs, SqL.of h2⟩, p1 W α1 Γ σ H1 _ [] Q E1 r1 (ru_nil.mpr rfl) fun α3 s3 u z H3 pb k3 => k α3 s3 u z H3 pb (k1.trans k3)⟩)
instance st_bm0 {r : V → List V → Hp → VK → Prop} : BVSt (suE K (tBM0 K "list" r ta) s Γ Post) (suE K ta s Γ fun s1 x => LstAt s1 x ∧ suM K r x [] s1 Post) := ⟨fun h => bm0 h⟩
theorem append {n : Nat} {ds : List U} {y : U} (hs : s[n]? = some (.lst ds)) (q : ds.length < sizeLine ∧ Post (s.set n (.lst (ds ++ [y]))) .non) : suM K rAppend (.rf n) [y] s Post := fun W α Γ σ H v vs Q E r1 r2 k => by
  obtain ⟨w, r', rfl, r3, r4⟩ := ru_cons.mp r2
  obtain rfl := ru_nil.mp r4
  obtain ⟨a, us, rfl, h1, h2, h3⟩ := lst_at E.ok hs r1
  obtain ⟨e, E'⟩ := chgL E h1 (ru_app h3 (ru_one r3))
  exact ⟨a, us, w, rfl, rfl, h2, by rw [← ru_len h3]; exact q.1, k α _ _ _ _ q.2 e E' (ru_non.mpr rfl)⟩
instance st_append {n : Nat} {ds : List U} {y : U} [hs : BVAt s n (.lst ds)] : BVSt (suM K rAppend (.rf n) [y] s Post) (ds.length < sizeLine ∧ Post (s.set n (.lst (ds ++ [y]))) .non) := ⟨fun q => append hs.eq q⟩
theorem pop {n : Nat} {ds : List U} {d : U} (hs : s[n]? = some (.lst (ds ++ [d]))) (q : Post (s.set n (.lst ds)) d) : suM K rPop (.rf n) [] s Post := fun W α Γ σ H v vs Q E r1 r2 k => by
  obtain rfl := ru_nil.mp r2
  obtain ⟨a, us, rfl, h1, h2, h3⟩ := lst_at E.ok hs r1
  have hl := ru_len h3
  rw [List.length_append, List.length_singleton] at hl
  obtain ⟨w, h4, h5⟩ := ru_at h3 (show (ds ++ [d])[ds.length]? = some d by rw [List.getElem?_append_right (Nat.le_refl _), Nat.sub_self]; rfl)
  have h6 : RpsU K α H ds us.dropLast := by
    have := ru_take ds.length h3
    rw [List.take_left] at this
    rw [List.dropLast_eq_take, ← hl, Nat.add_sub_cancel]
    exact this
  obtain ⟨e, E'⟩ := chgL E h1 h6
  exact ⟨a, us, w, rfl, rfl, h2, by rw [← hl, Nat.add_sub_cancel]; exact h4, k α _ _ _ _ q e E' (h5.ext e)⟩
instance st_pop {n : Nat} {ds : List U} {d : U} [hs : BVAt s n (.lst (ds ++ [d]))] : BVSt (suM K rPop (.rf n) [] s Post) (Post (s.set n (.lst ds)) d) := ⟨fun q => pop hs.eq q⟩
/-- xs + ys, two lists: a new one -/
theorem cat {n m : Nat} {xs ys : List U} (hx : s[n]? = some (.lst xs)) (hy : s[m]? = some (.lst ys)) (q : xs.length + ys.length ≤ sizeLine ∧ Post (s ++ [.lst (xs ++ ys)]) (.rf s.length)) : suR2 K rCat (.rf n) (.rf m) s Post := fun W α Γ σ H v w Q E r1 r2 k => by
  obtain ⟨a, us, rfl, h1, h2, h3⟩ := lst_at E.ok hx r1
  obtain ⟨b, ws, rfl, h1', h2', h3'⟩ := lst_at E.ok hy r2
  refine ⟨a, b, us, ws, rfl, rfl, h2, h2', by rw [← ru_len h3, ← ru_len h3']; exact q.1, fun p hp => k (α ++ [p]) _ _ _ _ q.2 (Ext.add hp) (E.step (Ext.add hp) (E.ok.add hp ⟨us ++ ws, upd_same, (ru_app h3 h3').ext (Ext.add hp)⟩)) (ru_rf.mpr ⟨p, by rw [E.ok.len]; simp, rfl⟩)⟩
instance st_cat {n m : Nat} {xs ys : List U} [hx : BVAt s n (.lst xs)] [hy : BVAt s m (.lst ys)] : BVSt (suR2 K rCat (.rf n) (.rf m) s Post) (xs.length + ys.length ≤ sizeLine ∧ Post (s ++ [.lst (xs ++ ys)]) (.rf s.length)) := ⟨fun q => cat hx.eq hy.eq q⟩
/-! ### written targets -/
def suGs (K : PySem.W.Frag) (gs : TGs) (ds : List U) (s : Sto) (Γ : List (Option U)) (Pg : Sto → List (Option U) → Prop) : Prop := ∀ (W : WU) (α : AM) (σ : L2.St) (H : Hp) (vs : List V) (Q : L2.St → Hp → Prop), EnvU K W α s Γ σ H → RpsU K α H ds vs → (∀ (α' : AM) (s' : Sto) (Γ' : List (Option U)) (σ' : L2.St) (H' : Hp), Pg s' Γ' → Ext α H α' H' → EnvU K W α' s' Γ' σ' H' → Q σ' H') → gs vs σ H Q
end
end SL
set_option Elab.async false
set_option linter.all false
set_option maxRecDepth 100000
set_option maxHeartbeats 4000000
/-! over the store: targets, loops, dicts -/
namespace SL
open PySem PySem.Spec PyProof.Rows L2 G0
section
variable {K : PySem.W.Frag} {s : Sto} {Γ : List (Option U)} {Post P : Sto → U → Prop} {te ta tb tc td ty tv : TE} {t tr : TA} {c c1 c2 : TT} {t1 t2 : TS} {e : EU} {g : TG} {gs : TGs} {α α' : AM} {H H' : Hp} {Pg : Sto → List (Option U) → Prop} {W : WU} {σ : L2.St}
theorem gnil {Pg : Sto → List (Option U) → Prop} (h : Pg s Γ) : suGs K gNil [] s Γ Pg := fun W α σ H vs Q E r q => by
  obtain rfl := ru_nil.mp r
  exact RD.gnil (q α s Γ σ H h Ext.refl E)
instance st_gnil : BVSt (suGs K gNil [] s Γ Pg) (Pg s Γ) := ⟨fun h => gnil h⟩
/-- a name among targets -/
theorem gconsN {i : Nat} {d : U} {ds : List U} (h : suGs K gs ds s (Γ.set i (some d)) Pg) : suGs K (gCons (gName i) gs) (d :: ds) s Γ Pg := fun W α σ H vs Q E r q => by
  obtain ⟨v, r', rfl, r1, r2⟩ := ru_cons.mp r
  exact RD.gcons (RD.gname (h W α _ H r' Q (E.set r1) r2 q))
instance st_gconsN {i : Nat} {d : U} {ds : List U} : BVSt (suGs K (gCons (gName i) gs) (d :: ds) s Γ Pg) (suGs K gs ds s (Γ.set i (some d)) Pg) := ⟨fun h => gconsN h⟩
theorem gtup {n : Nat} {ds : List U} (hn : ds.length = n) (h : suGs K gs ds s Γ Pg) : suG K (gTup K n gs) (.tup ds) s Γ Pg := fun W α σ H v Q E r q => by
  obtain ⟨p, vs, rfl, h1, h2⟩ := ru_tup.mp r
  exact RD.unp h1.sq (by rw [← ru_len h2]; exact hn) (h W α σ H vs Q E h2 fun α' s' Γ' σ' H' p' _ E' => q α' s' Γ' σ' H' p' E')
instance st_gtup {n : Nat} {ds : List U} [h : BVLen ds n] : BVSt (suG K (gTup K n gs) (.tup ds) s Γ Pg) (suGs K gs ds s Γ Pg) := ⟨fun q => gtup h.eq q⟩
/-- xs[i] = v -/
theorem setL {d : U} (h : suE K ta s Γ fun s1 o => suE K tb s1 Γ fun s2 y => ∃ n ds i j, o = .rf n ∧ y = .int i ∧ s2[n]? = some (.lst ds) ∧ ixN ds.length i = some j ∧ Pg (s2.set n (.lst (ds.set j d))) Γ) : suG K (gSub ta tb rSetL) d s Γ Pg := fun W α σ H v Q E r q => by
  show ta σ H _
  refine h W α σ H _ E fun α1 s1 o w H1 p1 k1 E1 r1 => p1 W α1 σ H1 _ E1 fun α2 s2 y u H2 p2 k2 E2 r2 => ?_
  obtain ⟨n, ds, i, j, rfl, rfl, hs, hj, pp⟩ := p2
  rw [ru_int.mp r2]
  obtain ⟨a, vs, rfl, h1, h2, h3⟩ := lst_at E2.ok hs (r1.ext k2)
  obtain ⟨_, E'⟩ := chgL E2 h1 (ru_set (i := j) h3 ((r.ext k1).ext k2))
  exact ⟨a, vs, i, j, rfl, rfl, h2, by rw [← ru_len h3]; exact hj, q α2 _ Γ σ _ pp E'⟩
/-! ### loops -/
theorem EnvU.base (E : EnvU K W α s Γ σ H) : EnvU K ⟨α, H⟩ α s Γ σ H := ⟨E.len, E.loc, E.ok, Ext.refl⟩
theorem EnvU.back {α1 : AM} {H1 : Hp} (e : Ext W.α0 W.H0 α1 H1) (E : EnvU K ⟨α1, H1⟩ α s Γ σ H) : EnvU K W α s Γ σ H := ⟨E.len, E.loc, E.ok, e.trans E.ext⟩
theorem FinU.back {α1 : AM} {H1 : Hp} {u : U} {v : V} (e : Ext W.α0 W.H0 α1 H1) (h : FinU K ⟨α1, H1⟩ s H u v) : FinU K W s H u v := by
  obtain ⟨α, a, b, c⟩ := h
  exact ⟨α, a, e.trans b, c⟩
/-- what a loop goes through -/
def suI (K : PySem.W.Frag) (wi : TI) (s : Sto) (Γ : List (Option U)) (Pl : Sto → (Sto → Prop) → List U → Prop) : Prop := ∀ (W : WU) (α : AM) (σ : L2.St) (H : Hp) (R : It → Hp → Prop), EnvU K W α s Γ σ H → (∀ (α1 : AM) (s1 : Sto) (H1 : Hp) (ok : Sto → Prop) (ds : List U) (J : It), Pl s1 ok ds → Ext α H α1 H1 → EnvU K W α1 s1 Γ σ H1 →
    (∀ (α2 : AM) (s2 : Sto) (H2 : Hp) (i : Nat), Ext α1 H1 α2 H2 → SOk K α2 s2 H2 → ok s2 → (i < ds.length → J.go i H2) ∧ (ds.length ≤ i → J.stop i H2) ∧ ∀ x H3, J.yld i H2 x H3 → i < ds.length → H3 = H2 ∧ ∃ d, ds[i]? = some d ∧ RpU K α2 H2 d x) → R J H1) → wi σ H R
theorem forI {wi : TI} (h : suI K wi s Γ fun s1 ok ds => ∃ I : Nat → Sto → List (Option U) → Prop, I 0 s1 Γ ∧ (∀ k s2 Γ', I k s2 Γ' → ok s2) ∧ (∀ k d s2 Γ', ds[k]? = some d → I k s2 Γ' → suG K g d s2 Γ' fun s3 g' => suS K t1 s3 g' ⟨I (k + 1), e.R, e.N, I (k + 1)⟩) ∧ ∀ s2 Γ', I ds.length s2 Γ' → e.N s2 Γ') : suS K (tFor wi g t1) s Γ e := fun W α σ H D E q1 q2 q3 q4 => by
  unfold tFor
  refine h W α σ H _ E fun α1 s1 H1 ok ds J p k1 E1 wk => ?_
  obtain ⟨I, i0, iok, step, done⟩ := p
  refine ⟨fun i m σ' H' => m = ds.length - i ∧ i ≤ ds.length ∧ ∃ α2 s2 Γ', I i s2 Γ' ∧ EnvU K ⟨α1, H1⟩ α2 s2 Γ' σ' H', ⟨ds.length, rfl, Nat.zero_le _, α1, s1, Γ, i0, E1.base⟩, fun i m σ' H' hI => ?_⟩
  obtain ⟨rfl, hi, α2, s2, Γ', hI, E'⟩ := hI
  obtain ⟨w1, w2, w3⟩ := wk α2 s2 H' i E'.ext E'.ok (iok i s2 Γ' hI)
  rcases Nat.lt_or_ge i ds.length with hlt | hge
  · refine .inr ⟨w1 hlt, fun σ2 H2 => ∃ α3 s3 Γ3, I (i + 1) s3 Γ3 ∧ EnvU K ⟨α1, H1⟩ α3 s3 Γ3 σ2 H2, fun σ2 H2 ⟨α3, s3, Γ3, j, E3⟩ => ⟨_, by omega, rfl, hlt, α3, s3, Γ3, j, E3⟩, fun x H2 hy => ?_⟩
    obtain ⟨rfl, d, hd, rd⟩ := w3 x H2 hy hlt
    exact step i d s2 Γ' hd hI ⟨α1, H1⟩ α2 σ' H2 x _ E' rd fun α3 s3 Γ3 σ3 H3 b3 E3 => b3 ⟨α1, H1⟩ α3 σ3 H3 _ E3 (fun α4 s4 Γ4 σ4 H4 n E4 => ⟨α4, s4, Γ4, n, E4⟩) (fun s4 u v H4 r f => q2 s4 u v H4 r (f.back E1.ext)) (fun α4 s4 Γ4 σ4 H4 n E4 => q1 α4 s4 Γ4 σ4 H4 n (E4.back E1.ext)) fun α4 s4 Γ4 σ4 H4 n E4 => ⟨α4, s4, Γ4, n, E4⟩
  · have e1 : i = ds.length := by omega
    subst e1
    exact .inl ⟨w2 hge, q1 α2 s2 Γ' σ' H' (done s2 Γ' hI) (E'.back E1.ext)⟩
/-- over a tuple -/
theorem wtup {Pl : Sto → (Sto → Prop) → List U → Prop} (h : suE K te s Γ fun s1 b => ∃ ds, b = .tup ds ∧ Pl s1 (fun _ => True) ds) : suI K (iTup K te) s Γ Pl := fun W α σ H R E q =>
  RD.itup (h W α σ H _ E fun α1 s1 b v H1 p k1 E1 r1 => by
    obtain ⟨ds, rfl, p⟩ := p
    obtain ⟨a, vs, rfl, h1, h2⟩ := ru_tup.mp r1
    refine ⟨a, rfl, ⟨vs, h1.sq⟩, q α1 s1 H1 _ ds _ p k1 E1 fun α2 s2 H2 i e2 ok2 _ => ?_⟩
    have a1 := (h1.ext e2).sq
    have a2 := h2.ext e2
    refine ⟨fun hi => ⟨vs, vs[i]'(by rw [← ru_len a2]; exact hi), a1, List.getElem?_eq_getElem _⟩, fun hi => ⟨vs, a1, by rw [← ru_len a2]; exact hi⟩, fun x H3 hy hi => ?_⟩
    obtain ⟨rfl, hx⟩ := hy
    refine ⟨rfl, ds[i], List.getElem?_eq_getElem hi, ?_⟩
    obtain ⟨w, b1, b2⟩ := ru_at a2 (List.getElem?_eq_getElem hi)
    rw [hx vs a1] at b1
    cases b1
    exact b2)
/-- over a list that stays while one walks -/
theorem wlist {Pl : Sto → (Sto → Prop) → List U → Prop} (h : suE K te s Γ fun s1 b => ∃ n ds, b = .rf n ∧ s1[n]? = some (.lst ds) ∧ Pl s1 (fun s2 => s2[n]? = some (.lst ds)) ds) : suI K (iList K te) s Γ Pl := fun W α σ H R E q =>
  RD.ilist (h W α σ H _ E fun α1 s1 b v H1 p k1 E1 r1 => by
    obtain ⟨n, ds, rfl, hs, p⟩ := p
    obtain ⟨a, vs, rfl, h1, h2, h3⟩ := lst_at E1.ok hs r1
    refine ⟨a, rfl, ⟨vs, SqL.of h2⟩, q α1 s1 H1 _ ds _ p k1 E1 fun α2 s2 H2 i e2 ok2 hok => ?_⟩
    obtain ⟨ws, c1, c2⟩ := ok2.ob n _ a hok (e2.get h1)
    have a1 : SqL K H2 a ws := SqL.of c1
    refine ⟨fun hi => ⟨ws, ws[i]'(by rw [← ru_len c2]; exact hi), a1, List.getElem?_eq_getElem _⟩, fun hi => ⟨ws, a1, by rw [← ru_len c2]; exact hi⟩, fun x H3 hy hi => ?_⟩
    obtain ⟨rfl, hx⟩ := hy
    refine ⟨rfl, ds[i], List.getElem?_eq_getElem hi, ?_⟩
    obtain ⟨w, b1, b2⟩ := ru_at c2 (List.getElem?_eq_getElem hi)
    rw [hx ws a1] at b1
    cases b1
    exact b2)
def rngU (i : Int) (n : Nat) : List U := (List.range n).map fun k => .int (i + (k : Nat))
theorem rngU_len {i : Int} {n : Nat} : (rngU i n).length = n := by unfold rngU; rw [List.length_map, List.length_range]
theorem rngU_at {i : Int} {n k : Nat} (h : k < n) : (rngU i n)[k]? = some (.int (i + (k : Nat))) := by
  unfold rngU
  rw [List.getElem?_map, List.getElem?_range h]
  rfl
theorem wrng1 {Pl : Sto → (Sto → Prop) → List U → Prop} (h : suA K t s Γ fun s1 us => ∃ n : Nat, us = [.int n] ∧ n < 2 ^ 62 ∧ Pl s1 (fun _ => True) (rngU 0 n)) : suI K (iRng1 t) s Γ Pl := fun W α σ H R E q => by
  show t σ H _
  refine h W α σ H _ E fun α1 s1 us vs H1 p k1 E1 r1 => ?_
  obtain ⟨n, rfl, hn, p⟩ := p
  obtain ⟨v, r', rfl, a1, a2⟩ := ru_cons.mp r1
  obtain rfl := ru_nil.mp a2
  rw [ru_int.mp a1]
  refine ⟨n, rfl, by omega, by omega, q α1 s1 H1 _ (rngU 0 n) _ p k1 E1 fun α2 s2 H2 i e2 ok2 _ => ?_⟩
  rw [rngU_len]
  refine ⟨fun hi => hi, fun hi => hi, fun x H3 hy hi => ?_⟩
  obtain ⟨rfl, rfl⟩ := hy
  exact ⟨rfl, _, rngU_at hi, ru_int.mpr rfl⟩
theorem while_ (I : Nat → Sto → List (Option U) → Prop) (m0 : Nat) (i0 : I m0 s Γ) (step : ∀ m s1 Γ', I m s1 Γ' → suT K c s1 Γ' fun s2 b => if b = true then suS K t1 s2 Γ' ⟨fun s3 g' => ∃ m', m' < m ∧ I m' s3 g', e.R, e.N, fun s3 g' => ∃ m', m' < m ∧ I m' s3 g'⟩ else e.N s2 Γ') : suS K (tWhile c t1) s Γ e := fun W α σ H D E q1 q2 q3 q4 => by
  unfold tWhile
  refine ⟨fun m σ' H' => ∃ α1 s1 Γ', I m s1 Γ' ∧ EnvU K W α1 s1 Γ' σ' H', ⟨m0, α, s, Γ, i0, E⟩, fun m σ' H' ⟨α1, s1, Γ', hI, E'⟩ => step m s1 Γ' hI W α1 σ' H' _ E' fun α2 s2 b H1 p k1 E1 => ?_⟩
  obtain ⟨a1, a2⟩ := iteS p
  cases b with
  | true =>
    rw [if_pos rfl]
    exact ⟨fun σ2 H2 => ∃ α3 s3 Γ2, (∃ m', m' < m ∧ I m' s3 Γ2) ∧ EnvU K W α3 s3 Γ2 σ2 H2, fun σ2 H2 ⟨α3, s3, Γ2, ⟨m', hm, j⟩, E2⟩ => ⟨m', hm, α3, s3, Γ2, j, E2⟩, a1 rfl W α2 σ' H1 _ E1 (fun α3 s3 Γ3 σ3 H3 n E3 => ⟨α3, s3, Γ3, n, E3⟩) q2 (fun α3 s3 Γ3 σ3 H3 n E3 => q1 α3 s3 Γ3 σ3 H3 n E3) fun α3 s3 Γ3 σ3 H3 n E3 => ⟨α3, s3, Γ3, n, E3⟩⟩
  | false =>
    rw [if_neg Bool.false_ne_true]
    exact q1 α2 s2 Γ' σ' H1 (a2 rfl) E1
/-! ### dicts of the store -/
def keyU : Key → U
  | .inl i => .int i
  | .inr x => .str x
theorem ru_key {k : Key} {v : V} (h : RpU K α H (keyU k) v) : v = kV k := by
  cases k with
  | inl i => exact ru_int.mp h
  | inr x => exact ru_str.mp h
def getU (ks : List Key) (ds : List U) (k : Key) : Option U := ((ks.zip ds).find? fun q => decide (q.1 = k)).map (·.2)
def putU (ks : List Key) (ds : List U) (k : Key) (d : U) : List Key × List U := if BV.hasB ks k = true then (ks, (ks.zip ds).map fun q => if q.1 = k then d else q.2) else (ks ++ [k], ds ++ [d])
theorem get_zipU {k : Key} : ∀ {ks : List Key} {ds : List U} {vs : List V}, ks.length = vs.length → RpsU K α H ds vs → (getU ks ds k = none → valV (ks.zip vs) k = none) ∧ ∀ d, getU ks ds k = some d → ∃ v, valV (ks.zip vs) k = some v ∧ RpU K α H d v
  | [], ds, vs, hl, r => ⟨fun _ => rfl, fun d h => (by cases h)⟩
  | a :: ks, ds, vs, hl, r => by
    cases vs with
    | nil => cases hl
    | cons v vs =>
      cases ds with
      | nil => have := ru_len r; cases this
      | cons d ds =>
        obtain ⟨v', r', e, r1, r2⟩ := ru_cons.mp r
        cases e
        obtain ⟨i1, i2⟩ := get_zipU (k := k) (ks := ks) (Nat.succ.inj hl) r2
        unfold getU valV
        rw [List.zip_cons_cons, List.zip_cons_cons, List.find?_cons, List.find?_cons]
        by_cases ha : a = k
        · rw [decide_eq_true ha]
          exact ⟨fun h => (by cases h), fun d' h => ⟨v, rfl, by rw [← Option.some.inj h]; exact r1⟩⟩
        · rw [decide_eq_false ha]
          exact ⟨i1, i2⟩
theorem dct_at {n : Nat} {ks : List Key} {ds : List U} {v : V} (ok : SOk K α s H) (h : s[n]? = some (.dct ks ds)) (r : RpU K α H (.rf n) v) : ∃ a vs, v = .ref a ∧ α[n]? = some a ∧ H a = some (.dK (ks.zip vs)) ∧ ks.length = vs.length ∧ RpsU K α H ds vs := by
  obtain ⟨a, h1, rfl⟩ := ru_rf.mp r
  obtain ⟨vs, h2, h3, h4⟩ := ok.ob n _ a h h1
  exact ⟨a, vs, rfl, h1, h2, by rw [h3, ru_len h4], h4⟩
theorem dget (h : suE K td s Γ fun s1 x => suE K ty s1 Γ fun s2 y => ∃ n ks ds k d, x = .rf n ∧ s2[n]? = some (.dct ks ds) ∧ y = keyU k ∧ getU ks ds k = some d ∧ Post s2 d) : suE K (tDGet td ty) s Γ Post := fun W α σ H Q E k =>
  RD.dget (h W α σ H _ E fun α1 s1 x v H1 p1 k1 E1 r1 => p1 W α1 σ H1 _ E1 fun α2 s2 y u H2 p2 k2 E2 r2 => by
    obtain ⟨n, ks, ds, kk, d, rfl, hs, rfl, e, pd⟩ := p2
    obtain ⟨a, vs, rfl, h1, h2, h3, h4⟩ := dct_at E2.ok hs (r1.ext k2)
    obtain ⟨w, e1, e2⟩ := (get_zipU h3 h4).2 d e
    refine ⟨a, w, rfl, ?_, k α2 s2 d w H2 pd (k1.trans k2) E2 e2⟩
    rw [ru_key r2, ← e1]
    exact DGet.k h2)
theorem din (h : suE K ty s Γ fun s1 y => suE K td s1 Γ fun s2 x => ∃ n ks ds k, x = .rf n ∧ s2[n]? = some (.dct ks ds) ∧ y = keyU k ∧ Post s2 (.bl (getU ks ds k).isSome)) : suE K (tDIn ty td) s Γ Post := fun W α σ H Q E k =>
  RD.din (h W α σ H _ E fun α1 s1 y u H1 p1 k1 E1 r1 => p1 W α1 σ H1 _ E1 fun α2 s2 x v H2 p2 k2 E2 r2 => by
    obtain ⟨n, ks, ds, kk, rfl, hs, rfl, pd⟩ := p2
    obtain ⟨a, vs, rfl, h1, h2, h3, h4⟩ := dct_at E2.ok hs r2
    have e : (valV (ks.zip vs) kk).isSome = (getU ks ds kk).isSome := by
      cases q : getU ks ds kk with
      | none => rw [(get_zipU h3 h4).1 q]; rfl
      | some d => obtain ⟨w, e1, _⟩ := (get_zipU h3 h4).2 d q; rw [e1]; rfl
    refine ⟨a, valV (ks.zip vs) kk, rfl, ?_, k α2 s2 _ _ H2 pd (k1.trans k2) E2 (by rw [e]; exact ru_bl.mpr rfl)⟩
    rw [ru_key (r1.ext k2)]
    exact DGet.k h2)
theorem put_zipU {ks : List Key} {ds : List U} {k : Key} {d : U} {v : V} {vs : List V} (hl : ks.length = vs.length) (r : RpsU K α H ds vs) (rd : RpU K α H d v) : ∃ vs', putK (ks.zip vs) k v = (putU ks ds k d).1.zip vs' ∧ (putU ks ds k d).1.length = (putU ks ds k d).2.length ∧ RpsU K α H (putU ks ds k d).2 vs' := by
  have hl2 : ds.length = vs.length := ru_len r
  have hany : ((ks.zip vs).any fun kv => decide (kv.1 = k)) = BV.hasB ks k := by
    unfold BV.hasB
    clear hl2 r
    induction ks generalizing vs with
    | nil => rfl
    | cons a ks ih =>
      cases vs with
      | nil => cases hl
      | cons u vs => rw [List.zip_cons_cons, List.any_cons, List.any_cons, ih (Nat.succ.inj hl)]
  unfold putK putU
  rw [hany]
  by_cases hk : BV.hasB ks k = true
  · rw [if_pos hk, if_pos hk]
    refine ⟨(ks.zip vs).map fun q => if q.1 = k then v else q.2, ?_, by rw [List.length_map, List.length_zip]; show ks.length = _; omega, ?_⟩
    · clear hany hk hl2 r
      induction ks generalizing vs with
      | nil => rfl
      | cons a ks ih =>
        cases vs with
        | nil => cases hl
        | cons u vs =>
          have := ih (vs := vs) (Nat.succ.inj hl)
          simp only [List.zip_cons_cons, List.map_cons]
          rw [← this]
          congr 1
          by_cases h : a = k <;> simp [h]
    · clear hany hk
      induction ks generalizing vs ds with
      | nil => exact ru_nil.mpr rfl
      | cons a ks ih =>
        cases vs with
        | nil => cases hl
        | cons u vs =>
          cases ds with
          | nil => cases hl2
          | cons d' ds =>
            obtain ⟨v', r', e, r1, r2⟩ := ru_cons.mp r
            cases e
            refine ru_cons.mpr ⟨_, _, rfl, ?_, ih (Nat.succ.inj hl) r2 (Nat.succ.inj hl2)⟩
            by_cases h : a = k
            · simp only [h, if_true]
              exact rd
            · simp only [h, if_false]
              exact r1
  · rw [if_neg hk, if_neg hk]
    refine ⟨vs ++ [v], ?_, by rw [List.length_append, List.length_append, hl, hl2]; rfl, ru_app r (ru_one rd)⟩
    rw [List.zip_append hl]
    rfl
theorem dput (h : suE K tv s Γ fun s1 d => suE K td s1 Γ fun s2 x => suE K ty s2 Γ fun s3 y => ∃ n ks ds k, x = .rf n ∧ s3[n]? = some (.dct ks ds) ∧ y = keyU k ∧ ks.length < sizeLine ∧ e.N (s3.set n (.dct (putU ks ds k d).1 (putU ks ds k d).2)) Γ) : suS K (sDPut td ty tv) s Γ e := fun W α σ H D E q1 q2 q3 q4 => by
  unfold sDPut
  refine h W α σ H _ E fun α1 s1 d w H1 p1 k1 E1 r1 => p1 W α1 σ H1 _ E1 fun α2 s2 x v H2 p2 k2 E2 r2 => p2 W α2 σ H2 _ E2 fun α3 s3 y u H3 p3 k3 E3 r3 => ?_
  obtain ⟨n, ks, ds, kk, rfl, hs, rfl, hz, pn⟩ := p3
  obtain ⟨a, vs, rfl, h1, h2, h3, h4⟩ := dct_at E3.ok hs (r2.ext k3)
  obtain ⟨vs', b1, b2, b3⟩ := put_zipU (k := kk) h3 h4 ((r1.ext k2).ext k3)
  have ee := Ext.chg (H := H3) (u := .dK (putK (ks.zip vs) kk w)) (List.mem_of_getElem? h1)
  refine ⟨a, _, rfl, by rw [ru_key r3]; exact DPut.k h2 (by rw [List.length_zip]; omega), q1 α3 _ Γ σ _ pn (E3.step ee (E3.ok.chg h1 ⟨vs', by rw [upd_same, b1], b2, b3.ext ee⟩))⟩
theorem dnew (q : Post (s ++ [.dct [] []]) (.rf s.length)) : suE K tDNewK s Γ Post := fun W α σ H Q E k => fun p hp => k (α ++ [p]) _ _ _ _ q (Ext.add hp) (E.step (Ext.add hp) (E.ok.add hp ⟨[], upd_same, rfl, ru_nil.mpr rfl⟩)) (ru_rf.mpr ⟨p, by rw [E.ok.len]; simp, rfl⟩)
instance st_dnew : BVSt (suE K tDNewK s Γ Post) (Post (s ++ [.dct [] []]) (.rf s.length)) := ⟨fun q => dnew q⟩
end
end SL
set_option Elab.async false
set_option linter.all false
set_option maxRecDepth 100000
set_option maxHeartbeats 4000000
/-! over the store: comprehensions, slices, conversions, calls of defs read by value -/
namespace SL
open PySem PySem.Spec PyProof.Rows L2 G0
section
variable {K : PySem.W.Frag} {s : Sto} {Γ : List (Option U)} {Post P : Sto → U → Prop} {te ta tb tc td ty tv : TE} {t tr : TA} {c c1 c2 tt : TT} {t1 t2 : TS} {e : EU} {g : TG} {gs : TGs} {α α' : AM} {H H' : Hp} {Pg : Sto → List (Option U) → Prop} {W : WU} {σ : L2.St} {wi : TI} {ws : List Nat}
/-! ### comprehensions -/
def wipeU (Γ : List (Option U)) : List Nat → List (Option U)
  | [] => Γ
  | v :: vs => (wipeU Γ vs).set v none
theorem wipeU_len : ∀ {ws : List Nat}, (wipeU Γ ws).length = Γ.length
  | [] => rfl
  | v :: vs => by rw [wipeU, List.length_set, wipeU_len]
theorem wipeU_some {i : Nat} {u : U} : ∀ {ws : List Nat}, (wipeU Γ ws)[i]? = some (some u) → Γ[i]? = some (some u) ∧ i ∉ ws
  | [], h => ⟨h, by simp⟩
  | v :: vs, h => by
    rw [wipeU] at h
    by_cases e : v = i
    · subst e
      by_cases hl : v < (wipeU Γ vs).length
      · rw [List.getElem?_set_self hl] at h; cases h
      · rw [List.getElem?_eq_none (by rw [List.length_set]; omega)] at h; cases h
    · rw [List.getElem?_set_ne e] at h
      obtain ⟨a, b⟩ := wipeU_some h
      exact ⟨a, by simp only [List.mem_cons, not_or]; exact ⟨Ne.symm e, b⟩⟩
theorem EnvU.wipe (E : EnvU K W α s Γ σ H) : EnvU K W α s (wipeU Γ ws) (L2.wipe σ ws) H := ⟨by rw [wipeU_len, wipe_length]; exact E.len, fun i u h => by
  obtain ⟨a, b⟩ := wipeU_some h
  rw [BV.wipe_get b]
  exact E.loc i u a, E.ok, E.ext⟩
/-- a target whose names are the block's own -/
def suGv (K : PySem.W.Frag) (ws : List Nat) (g : TG) (d : U) (s : Sto) (Γ : List (Option U)) (Pg : Sto → List (Option U) → Prop) : Prop := ∀ (W : WU) (α : AM) (σ : L2.St) (H : Hp) (v : V) (Q : L2.St → Hp → Prop), EnvU K W α s Γ σ H → RpU K α H d v → (∀ (Γ' : List (Option U)) (σ' : L2.St), Pg s Γ' → L2.wipe σ' ws = L2.wipe σ ws → EnvU K W α s Γ' σ' H → Q σ' H) → g v σ H Q
def suGvs (K : PySem.W.Frag) (ws : List Nat) (gs : TGs) (ds : List U) (s : Sto) (Γ : List (Option U)) (Pg : Sto → List (Option U) → Prop) : Prop := ∀ (W : WU) (α : AM) (σ : L2.St) (H : Hp) (vs : List V) (Q : L2.St → Hp → Prop), EnvU K W α s Γ σ H → RpsU K α H ds vs → (∀ (Γ' : List (Option U)) (σ' : L2.St), Pg s Γ' → L2.wipe σ' ws = L2.wipe σ ws → EnvU K W α s Γ' σ' H → Q σ' H) → gs vs σ H Q
theorem vname {i : Nat} {d : U} (hi : i ∈ ws) (h : Pg s (Γ.set i (some d))) : suGv K ws (gName i) d s Γ Pg := fun W α σ H v Q E r q => RD.gname (q _ _ h (BV.wipe_set hi) (E.set r))
theorem vnil (h : Pg s Γ) : suGvs K ws gNil [] s Γ Pg := fun W α σ H vs Q E r q => by
  obtain rfl := ru_nil.mp r
  exact RD.gnil (q Γ σ h rfl E)
theorem vcons {d : U} {ds : List U} (h : suGv K ws g d s Γ fun s' g' => suGvs K ws gs ds s' g' Pg) : suGvs K ws (gCons g gs) (d :: ds) s Γ Pg := fun W α σ H vs Q E r q => by
  obtain ⟨v, r', rfl, r1, r2⟩ := ru_cons.mp r
  exact RD.gcons (h W α σ H v _ E r1 fun Γ' σ' p hw E' => p W α σ' H r' Q E' r2 fun Γ2 σ2 p2 hw2 E2 => q Γ2 σ2 p2 (hw2.trans hw) E2)
theorem vtup {n : Nat} {ds : List U} (hn : ds.length = n) (h : suGvs K ws gs ds s Γ Pg) : suGv K ws (gTup K n gs) (.tup ds) s Γ Pg := fun W α σ H v Q E r q => by
  obtain ⟨p, vs, rfl, h1, h2⟩ := ru_tup.mp r
  exact RD.unp h1.sq (by rw [← ru_len h2]; exact hn) (h W α σ H vs Q E h2 q)
instance st_vnil : BVSt (suGvs K ws gNil [] s Γ Pg) (Pg s Γ) := ⟨fun h => vnil h⟩
instance st_vcons {d : U} {ds : List U} : BVSt (suGvs K ws (gCons g gs) (d :: ds) s Γ Pg) (suGv K ws g d s Γ fun s' g' => suGvs K ws gs ds s' g' Pg) := ⟨fun h => vcons h⟩
instance st_vtup {n : Nat} {ds : List U} [h : BVLen ds n] : BVSt (suGv K ws (gTup K n gs) (.tup ds) s Γ Pg) (suGvs K ws gs ds s Γ Pg) := ⟨fun q => vtup h.eq q⟩
theorem lc (h : suI K wi s Γ fun s1 ok ds => ∃ I : Nat → Sto → List U → Prop, I 0 (s1 ++ [.lst []]) [] ∧ (∀ k s2 acc, I k s2 acc → ok s2 ∧ s2[s1.length]? = some (.lst acc)) ∧ (∀ k d s2 acc, ds[k]? = some d → I k s2 acc → suGv K ws g d s2 (wipeU Γ ws) fun s3 g' => suT K tt s3 g' fun s4 b => if b = true then suE K te s4 g' fun s5 y => s5[s1.length]? = some (.lst acc) ∧ acc.length < sizeLine ∧ I (k + 1) (s5.set s1.length (.lst (acc ++ [y]))) (acc ++ [y]) else I (k + 1) s4 acc) ∧ ∀ s2 acc, I ds.length s2 acc → Post s2 (.rf s1.length)) : suE K (tLc wi g tt te ws) s Γ Post := fun W α σ H Q E k => by
  unfold tLc
  refine h W α σ H _ E fun α1 s1 H1 ok ds J p k1 E1 wk D hD => ?_
  obtain ⟨I, i0, iok, step, done⟩ := p
  have eD := Ext.add (α := α1) (H := H1) (u := HO.lst []) hD
  have E2 := E1.step eD (E1.ok.add hD (b := .lst []) ⟨[], upd_same, ru_nil.mpr rfl⟩)
  have hDn : (α1 ++ [D])[s1.length]? = some D := by rw [E1.ok.len]; simp
  refine ⟨fun i m H' => m = ds.length - i ∧ i ≤ ds.length ∧ ∃ α2 s2 acc, I i s2 acc ∧ Ext (α1 ++ [D]) (upd H1 D (.lst [])) α2 H' ∧ SOk K α2 s2 H', ⟨ds.length, rfl, Nat.zero_le _, _, _, _, i0, Ext.refl, E2.ok⟩, fun i m H' hI => ?_⟩
  obtain ⟨rfl, hi, α2, s2, acc, hI, e2, ok2⟩ := hI
  obtain ⟨o1, o2⟩ := iok i s2 acc hI
  obtain ⟨w1, w2, w3⟩ := wk α2 s2 H' i (eD.trans e2) ok2 o1
  have E3 : EnvU K W α2 s2 Γ σ H' := E2.step e2 ok2
  rcases Nat.lt_or_ge i ds.length with hlt | hge
  · refine .inr ⟨w1 hlt, fun H2 => ∃ α3 s3 acc, I (i + 1) s3 acc ∧ Ext (α1 ++ [D]) (upd H1 D (.lst [])) α3 H2 ∧ SOk K α3 s3 H2, fun H2 ⟨α3, s3, acc2, a1, a2, a3⟩ => ⟨_, by omega, rfl, hlt, α3, s3, acc2, a1, a2, a3⟩, fun x H2 hy => ?_⟩
    obtain ⟨rfl, d, hd, rd⟩ := w3 x H2 hy hlt
    have E4 := (E3.wipe (ws := ws))
    refine step i d s2 acc hd hI W α2 _ H2 x _ E4 rd fun Γ' σ' p' hw E5 => ⟨hw.trans BV.wipe_idem, p' W α2 σ' H2 _ E5 fun α3 s3 b H3 pb k3 E6 => ?_⟩
    obtain ⟨b1, b2⟩ := iteS pb
    cases b with
    | true =>
      rw [if_pos rfl]
      refine b1 rfl W α3 σ' H3 _ E6 fun α4 s4 y v H4 py k4 E7 r7 => ?_
      have e5 := e2.trans (k3.trans k4)
      have hn := e5.get hDn
      obtain ⟨vs, c1, c2⟩ := E7.ok.ob _ _ _ py.1 hn
      obtain ⟨ee, E8⟩ := chgL E7 hn (ru_app c2 (ru_one r7))
      exact ⟨vs, c1, by rw [← ru_len c2]; exact py.2.1, α4, _, _, py.2.2, e5.trans ee, E8.ok⟩
    | false =>
      rw [if_neg Bool.false_ne_true]
      exact ⟨α3, s3, acc, b2 rfl, e2.trans k3, E6.ok⟩
  · have e1 : i = ds.length := by omega
    subst e1
    exact .inl ⟨w2 hge, k α2 s2 _ _ H' (done s2 acc hI) (k1.trans (eD.trans e2)) E3 (ru_rf.mpr ⟨D, e2.get hDn, rfl⟩)⟩
/-! ### slices, conversions -/
def suO (K : PySem.W.Frag) (to : TO) (s : Sto) (Γ : List (Option U)) (Po : Sto → Option Int → Prop) : Prop := ∀ (W : WU) (α : AM) (σ : L2.St) (H : Hp) (Q : Option Int → Hp → Prop), EnvU K W α s Γ σ H → (∀ (α' : AM) (s' : Sto) (x : Option Int) (H' : Hp), Po s' x → Ext α H α' H' → EnvU K W α' s' Γ σ H' → Q x H') → to σ H Q
def suSl (K : PySem.W.Frag) (r : V → Option Int → Option Int → Hp → VK → Prop) (x : U) (lo hi : Option Int) (s : Sto) (Post : Sto → U → Prop) : Prop := ∀ (W : WU) (α : AM) (Γ : List (Option U)) (σ : L2.St) (H : Hp) (v : V) (Q : VK), EnvU K W α s Γ σ H → RpU K α H x v → (∀ (α' : AM) (s' : Sto) (u : U) (z : V) (H' : Hp), Post s' u → Ext α H α' H' → EnvU K W α' s' Γ σ H' → RpU K α' H' u z → Q z H') → r v lo hi H Q
theorem noP {Po : Sto → Option Int → Prop} (q : Po s none) : suO K tNoPart s Γ Po := fun W α σ H Q E k => RD.noPart (k α s none H q Ext.refl E)
instance st_noP {Po : Sto → Option Int → Prop} : BVSt (suO K tNoPart s Γ Po) (Po s none) := ⟨fun q => noP q⟩
theorem part {Po : Sto → Option Int → Prop} (h : suE K te s Γ fun s1 b => ∃ i, b = .int i ∧ Po s1 (some i)) : suO K (tPart te) s Γ Po := fun W α σ H Q E k =>
  RD.part (h W α σ H _ E fun α1 s1 b v H1 p k1 E1 r1 => by
    obtain ⟨i, rfl, p⟩ := p
    exact ⟨i, ru_int.mp r1, k α1 s1 _ H1 p k1 E1⟩)
instance st_part {Po : Sto → Option Int → Prop} : BVSt (suO K (tPart te) s Γ Po) (suE K te s Γ fun s1 b => ∃ i, b = .int i ∧ Po s1 (some i)) := ⟨fun q => part q⟩
theorem sl {r : V → Option Int → Option Int → Hp → VK → Prop} {tl th : TO} (h : suE K te s Γ fun s1 x => suO K tl s1 Γ fun s2 lo => suO K th s2 Γ fun s3 hi => suSl K r x lo hi s3 Post) : suE K (tSl r te tl th) s Γ Post := fun W α σ H Q E k =>
  RD.sl (h W α σ H _ E fun α1 s1 x v H1 p1 k1 E1 r1 => p1 W α1 σ H1 _ E1 fun α2 s2 lo H2 p2 k2 E2 => p2 W α2 σ H2 _ E2 fun α3 s3 hi H3 p3 k3 E3 => p3 W α3 Γ σ H3 v Q E3 (r1.ext (k2.trans k3)) fun α4 s4 u z H4 pb k4 => k α4 s4 u z H4 pb (k1.trans (k2.trans (k3.trans k4))))
instance st_sl {r : V → Option Int → Option Int → Hp → VK → Prop} {tl th : TO} : BVSt (suE K (tSl r te tl th) s Γ Post) (suE K te s Γ fun s1 x => suO K tl s1 Γ fun s2 lo => suO K th s2 Γ fun s3 hi => suSl K r x lo hi s3 Post) := ⟨fun q => sl q⟩
theorem ru_cut {ds : List U} {vs : List V} {lo hi : Option Int} (h : RpsU K α H ds vs) : RpsU K α H (BV.cutB ds lo hi) (cutV vs lo hi) := by
  unfold BV.cutB cutV
  rw [ru_len h]
  exact ru_take _ (ru_drop _ h)
theorem slT {ds : List U} {lo hi : Option Int} (q : Post s (.tup (BV.cutB ds lo hi))) : suSl K (rSlA K) (.tup ds) lo hi s Post := fun W α Γ σ H v Q E r k => by
  obtain ⟨p, vs, rfl, h1, h2⟩ := ru_tup.mp r
  refine ⟨p, vs, rfl, h1.sq, fun ⟨e1, e2⟩ => k α s _ _ H q Ext.refl E (ru_tup.mpr ⟨p, vs, rfl, h1, ?_⟩), fun _ np hn => k α s _ _ _ q (Ext.put hn) (E.step (Ext.put hn) (E.ok.nw hn)) (ru_tup.mpr ⟨np, _, rfl, .inl ⟨upd_same, E.ok.off hn⟩, (ru_cut h2).ext (Ext.put hn)⟩)⟩
  have hl := ru_len h2
  unfold BV.cutB
  rw [hl, e1, e2, List.drop_zero, Nat.sub_zero, List.take_of_length_le (by omega)]
  exact h2
instance st_slT {ds : List U} {lo hi : Option Int} : BVSt (suSl K (rSlA K) (.tup ds) lo hi s Post) (Post s (.tup (BV.cutB ds lo hi))) := ⟨fun q => slT q⟩
theorem slL {n : Nat} {ds : List U} {lo hi : Option Int} (hs : s[n]? = some (.lst ds)) (q : Post (s ++ [.lst (BV.cutB ds lo hi)]) (.rf s.length)) : suSl K (rSlL K) (.rf n) lo hi s Post := fun W α Γ σ H v Q E r k => by
  obtain ⟨a, vs, rfl, h1, h2, h3⟩ := lst_at E.ok hs r
  exact ⟨a, vs, rfl, SqL.of h2, fun p hp => k (α ++ [p]) _ _ _ _ q (Ext.add hp) (E.step (Ext.add hp) (E.ok.add hp ⟨_, upd_same, (ru_cut h3).ext (Ext.add hp)⟩)) (ru_rf.mpr ⟨p, by rw [E.ok.len]; simp, rfl⟩)⟩
instance st_slL {n : Nat} {ds : List U} {lo hi : Option Int} [hs : BVAt s n (.lst ds)] : BVSt (suSl K (rSlL K) (.rf n) lo hi s Post) (Post (s ++ [.lst (BV.cutB ds lo hi)]) (.rf s.length)) := ⟨fun q => slL hs.eq q⟩
/-- tuple(xs) -/
theorem tupL {n : Nat} {ds : List U} (hs : s[n]? = some (.lst ds)) (q : Post s (.tup ds)) : suR1 K (kTup K) (.rf n) s Post := fun W α Γ σ H v Q E r k => by
  obtain ⟨a, vs, rfl, h1, h2, h3⟩ := lst_at E.ok hs r
  exact .inl ⟨a, vs, rfl, SqL.of h2, fun p hp => k α s _ _ _ q (Ext.put hp) (E.step (Ext.put hp) (E.ok.nw hp)) (ru_tup.mpr ⟨p, vs, rfl, .inl ⟨upd_same, E.ok.off hp⟩, h3.ext (Ext.put hp)⟩)⟩
instance st_tupL {n : Nat} {ds : List U} [hs : BVAt s n (.lst ds)] : BVSt (suR1 K (kTup K) (.rf n) s Post) (Post s (.tup ds)) := ⟨fun q => tupL hs.eq q⟩
theorem tupT {ds : List U} (q : Post s (.tup ds)) : suR1 K (kTup K) (.tup ds) s Post := fun W α Γ σ H v Q E r k => by
  obtain ⟨p, vs, rfl, h1, h2⟩ := ru_tup.mp r
  exact .inr ⟨p, vs, rfl, h1.sq, k α s _ _ H q Ext.refl E r⟩
instance st_tupT {ds : List U} : BVSt (suR1 K (kTup K) (.tup ds) s Post) (Post s (.tup ds)) := ⟨fun q => tupT q⟩
/-- list(x) -/
theorem listL {n : Nat} {ds : List U} (hs : s[n]? = some (.lst ds)) (q : Post (s ++ [.lst ds]) (.rf s.length)) : suRA K (fun xs H Q => ∃ p ys, xs = [.ref p] ∧ (SqL K H p ys ∨ SqT K H p ys) ∧ ∀ l, H l = none → Q (.ref l) (upd H l (.lst ys))) [.rf n] s Post := fun W α Γ σ H vs Q E r k => by
  obtain ⟨v, r', rfl, r1, r2⟩ := ru_cons.mp r
  obtain rfl := ru_nil.mp r2
  obtain ⟨a, ys, rfl, h1, h2, h3⟩ := lst_at E.ok hs r1
  exact ⟨a, ys, rfl, .inl (SqL.of h2), fun p hp => k (α ++ [p]) _ _ _ _ q (Ext.add hp) (E.step (Ext.add hp) (E.ok.add hp ⟨_, upd_same, h3.ext (Ext.add hp)⟩)) (ru_rf.mpr ⟨p, by rw [E.ok.len]; simp, rfl⟩)⟩
/-- x + y, two tuples -/
theorem catT {xs ys : List U} (hl : xs.length + ys.length ≤ sizeLine) (q : Post s (.tup (xs ++ ys))) : suR2 K (rCatA K) (.tup xs) (.tup ys) s Post := fun W α Γ σ H v w Q E r1 r2 k => by
  obtain ⟨p, vs, rfl, h1, h2⟩ := ru_tup.mp r1
  obtain ⟨p', us, rfl, h1', h2'⟩ := ru_tup.mp r2
  refine ⟨p, p', vs, us, rfl, rfl, h1.sq, h1'.sq, by rw [← ru_len h2, ← ru_len h2']; exact hl, fun z => ?_, fun _ z => ?_, fun _ _ np hn => k α s _ _ _ q (Ext.put hn) (E.step (Ext.put hn) (E.ok.nw hn)) (ru_tup.mpr ⟨np, _, rfl, .inl ⟨upd_same, E.ok.off hn⟩, (ru_app h2 h2').ext (Ext.put hn)⟩)⟩
  · subst z
    obtain rfl : xs = [] := List.eq_nil_of_length_eq_zero (ru_len h2)
    exact k α s _ _ H q Ext.refl E r2
  · subst z
    obtain rfl : ys = [] := List.eq_nil_of_length_eq_zero (ru_len h2')
    rw [List.append_nil] at q
    exact k α s _ _ H q Ext.refl E r1
/-- xs.insert(i, y) -/
def rInsert : V → List V → Hp → VK → Prop := fun x vs H Q => ∃ (l : Addr) (xs : List V) (i : Int) (y : V), x = .ref l ∧ vs = [.int i, y] ∧ H l = some (.lst xs) ∧ xs.length < sizeLine ∧ 0 ≤ i ∧ i < 2 ^ 63 ∧ Q .non (upd H l (.lst (xs.take i.toNat ++ [y] ++ xs.drop i.toNat)))
theorem insert {n i : Nat} {ds : List U} {y : U} (hs : s[n]? = some (.lst ds)) (q : ds.length < sizeLine ∧ i < 2 ^ 63 ∧ Post (s.set n (.lst (ds.take i ++ [y] ++ ds.drop i))) .non) : suM K rInsert (.rf n) [.int (i : Nat), y] s Post := fun W α Γ σ H v vs Q E r1 r2 k => by
  obtain ⟨w0, r0, rfl, r3, r4⟩ := ru_cons.mp r2
  obtain ⟨w, r', rfl, r5, r6⟩ := ru_cons.mp r4
  obtain rfl := ru_nil.mp r6
  rw [ru_int.mp r3]
  obtain ⟨a, us, rfl, h1, h2, h3⟩ := lst_at E.ok hs r1
  obtain ⟨e, E'⟩ := chgL E h1 (ru_app (ru_app (ru_take i h3) (ru_one r5)) (ru_drop i h3))
  exact ⟨a, us, i, w, rfl, rfl, h2, by rw [← ru_len h3]; exact q.1, by omega, by omega, k α _ _ _ _ q.2.2 e E' (ru_non.mpr rfl)⟩
instance st_insert {n i : Nat} {ds : List U} {y : U} [hs : BVAt s n (.lst ds)] : BVSt (suM K rInsert (.rf n) [.int (i : Nat), y] s Post) (ds.length < sizeLine ∧ i < 2 ^ 63 ∧ Post (s.set n (.lst (ds.take i ++ [y] ++ ds.drop i))) .non) := ⟨fun q => insert hs.eq q⟩
/-! ### defs that are read by value -/
mutual
/-- b is what stands at u -/
def Dr (s : Sto) : BV.B → U → Prop
  | .non, u => u = .non
  | .bl b, u => u = .bl b
  | .int i, u => u = .int i
  | .str x, u => u = .str x
  | .raw v, u => u = .raw v
  | .tup ds, u => ∃ us, u = .tup us ∧ Drs s ds us
  | .lst ds, u => ∃ n us, u = .rf n ∧ s[n]? = some (.lst us) ∧ Drs s ds us
  | .dct ks ds, u => ∃ n us, u = .rf n ∧ s[n]? = some (.dct ks us) ∧ Drs s ds us
  | .src, _ => False
  | .mu _, _ => False
  | .xc _ _ _ _, _ => False
  | .obj _ _ _, _ => False
  | .dcT _ _, _ => False
def Drs (s : Sto) : List BV.B → List U → Prop
  | [], us => us = []
  | d :: ds, us => ∃ u r, us = u :: r ∧ Dr s d u ∧ Drs s ds r
end
/-- no state, no lock -/
def o0 : BV.Sr := ⟨fun _ _ => False, fun _ => False⟩
mutual
theorem dr_rp (ok : SOk K α s H) : ∀ {b : BV.B} {u : U} {v : V}, Dr s b u → RpU K α H u v → BV.Rp K (fun _ => False) o0 H b v
  | .non, u, v, d, r => by rw [Dr] at d; subst d; exact BV.rp_non.mpr (ru_non.mp r)
  | .bl _, u, v, d, r => by rw [Dr] at d; subst d; exact BV.rp_bl.mpr (ru_bl.mp r)
  | .int _, u, v, d, r => by rw [Dr] at d; subst d; exact BV.rp_int.mpr (ru_int.mp r)
  | .str _, u, v, d, r => by rw [Dr] at d; subst d; exact BV.rp_str.mpr (ru_str.mp r)
  | .raw _, u, v, d, r => by rw [Dr] at d; subst d; exact BV.rp_raw.mpr (ru_raw.mp r)
  | .tup ds, u, v, d, r => by
    rw [Dr] at d
    obtain ⟨us, rfl, d⟩ := d
    obtain ⟨p, vs, rfl, h1, h2⟩ := ru_tup.mp r
    exact BV.rp_tup.mpr ⟨p, vs, rfl, h1.imp (fun ⟨a, _⟩ => ⟨a, fun z => z⟩) id, drs_rp ok d h2⟩
  | .lst ds, u, v, d, r => by
    rw [Dr] at d
    obtain ⟨n, us, rfl, hs, d⟩ := d
    obtain ⟨a, vs, rfl, h1, h2, h3⟩ := lst_at ok hs r
    exact BV.rp_lst.mpr ⟨a, vs, rfl, fun z => z, h2, drs_rp ok d h3⟩
  | .dct ks ds, u, v, d, r => by
    rw [Dr] at d
    obtain ⟨n, us, rfl, hs, d⟩ := d
    obtain ⟨a, vs, rfl, h1, h2, h3, h4⟩ := dct_at ok hs r
    exact BV.rp_dct.mpr ⟨a, vs, rfl, fun z => z, .inl h2, h3, drs_rp ok d h4⟩
  | .src, u, v, d, r => by rw [Dr] at d; exact d.elim
  | .mu _, u, v, d, r => by rw [Dr] at d; exact d.elim
  | .xc _ _ _ _, u, v, d, r => by rw [Dr] at d; exact d.elim
  | .obj _ _ _, u, v, d, r => by rw [Dr] at d; exact d.elim
  | .dcT _ _, u, v, d, r => by rw [Dr] at d; exact d.elim
theorem drs_rp (ok : SOk K α s H) : ∀ {bs : List BV.B} {us : List U} {vs : List V}, Drs s bs us → RpsU K α H us vs → BV.Rps K (fun _ => False) o0 H bs vs
  | [], us, vs, d, r => by rw [Drs] at d; subst d; exact BV.rps_nil.mpr (ru_nil.mp r)
  | b :: bs, us, vs, d, r => by
    rw [Drs] at d
    obtain ⟨u, r', rfl, d1, d2⟩ := d
    obtain ⟨v, r'', rfl, r1, r2⟩ := ru_cons.mp r
    exact BV.rps_cons.mpr ⟨v, r'', rfl, dr_rp ok d1 r1, drs_rp ok d2 r2⟩
end
/-- flat data as they come back -/
def flU : BV.B → Option U
  | .non => some .non
  | .bl b => some (.bl b)
  | .int i => some (.int i)
  | .str x => some (.str x)
  | _ => none
theorem flU_rp {b : BV.B} {u : U} {v : V} {Z : BV.AS} {o : BV.Sr} (h : flU b = some u) (r : BV.Rp K Z o H b v) : RpU K α H u v := by
  cases b with
  | non => cases h; exact ru_non.mpr (BV.rp_non.mp r)
  | bl b => cases h; exact ru_bl.mpr (BV.rp_bl.mp r)
  | int i => cases h; exact ru_int.mpr (BV.rp_int.mp r)
  | str x => cases h; exact ru_str.mpr (BV.rp_str.mp r)
  | _ => cases h
theorem callB {G : BV.DK} {Wp : List BV.B → (BV.B → Prop) → Prop} {E : XK} (hl : ∀ H, BV.LK G H o0 H) (h : suA K t s Γ fun s1 us => ∃ bs, Drs s1 bs us ∧ Wp bs fun b => ∃ u, flU b = some u ∧ Post s1 u) : suE K (tCall (BV.SpB G K Wp) [] E t) s Γ Post := fun W α σ H Q Ev k =>
  RD.call (h W α σ H _ Ev fun α1 s1 us vs H1 p1 k1 E1 r1 => by
    obtain ⟨bs, hd, hW⟩ := p1
    refine ⟨fun _ => False, o0, bs, _, hl H1, fun st cl z => z.elim, fun p z => z.elim, drs_rp E1.ok hd r1, hW, fun b v H2 pb k2 _ r2 => ?_⟩
    obtain ⟨u, hu, pp⟩ := pb
    have e2 : Ext α1 H1 α1 H2 := ⟨List.prefix_refl _, fun b u _ hb => k2 b u (fun ⟨_, z⟩ => z) hb, fun _ h n => absurd h n⟩
    have ok2 : SOk K α1 s1 H2 := ⟨E1.ok.len, E1.ok.nd, fun n b a h1 h2 => (E1.ok.ob n b a h1 h2).ext e2 (by
      cases q : H1 a with
      | none => exact absurd q (E1.ok.live (List.mem_of_getElem? h2))
      | some u => exact k2 a u (fun ⟨_, z⟩ => z) q)⟩
    exact k α1 s1 u v H2 pp (k1.trans e2) (E1.step e2 ok2) (flU_rp hu r2))
end
end SL
set_option Elab.async false
set_option linter.all false
set_option maxRecDepth 100000
set_option maxHeartbeats 4000000
/-! over the store: the draws; where a law starts -/
namespace SF
open PySem PySem.Spec PyProof.Rows L2 G0 SL
section
variable {K : PySem.W.Frag} {α α' : AM} {s : Sto} {H H' : Hp} {W : WU} {Γ : List (Option U)} {σ : L2.St} {Post : Sto → U → Prop} {t : TA}
theorem ru_ints : ∀ {ns : List Int} {vs : List V}, RpsU K α H (ns.map U.int) vs ↔ vs = ns.map V.int
  | [], vs => ru_nil
  | n :: ns, vs => by
    rw [List.map_cons, List.map_cons, ru_cons]
    constructor
    · rintro ⟨v, r, rfl, a, b⟩
      rw [ru_int.mp a, ru_ints.mp b]
    · rintro rfl
      exact ⟨_, _, rfl, ru_int.mpr rfl, ru_ints.mpr rfl⟩
theorem SOk.chgA (h : SOk K α s H) {n : Nat} {a : Addr} {b : Ob} (hn : α[n]? = some a) (e : ∀ c u, c ≠ a → H c = some u → H' c = some u) (hb : ObAt K α H' a b) : Ext α H α H' ∧ SOk K α (s.set n b) H' := by
  have ee : Ext α H α H' := ⟨List.prefix_refl _, fun c u hc hu => e c u (fun z => hc (by rw [z]; exact List.mem_of_getElem? hn)) hu, fun _ h n => absurd h n⟩
  refine ⟨ee, by rw [List.length_set]; exact h.len, h.nd, fun m b' a' h1 h2 => ?_⟩
  by_cases q : n = m
  · subst q
    rw [hn] at h2
    cases h2
    rw [List.getElem?_set_self (by rw [h.len]; exact (List.getElem?_eq_some_iff.mp hn).1)] at h1
    cases h1
    exact hb
  · rw [List.getElem?_set_ne q] at h1
    have hne : a' ≠ a := fun z => q (nd_at h.nd hn (by rw [← z]; exact h2))
    refine (h.ob m b' a' h1 h2).ext ee ?_
    cases hh : H a' with
    | none => exact absurd hh (h.live (List.mem_of_getElem? h2))
    | some u => exact e a' u hne hh
end
end SF
set_option Elab.async false
set_option linter.all false
set_option maxRecDepth 100000
set_option maxHeartbeats 4000000
/-! by value: dicts keyed by tuples, own dicts, get with a default -/
namespace BV
open PySem PySem.Spec PyProof.Rows L2 G0
section
variable {G M : DK} {K : PySem.W.Frag} {W : Wd} {Γ Γ' : List Cell} {σ σ' : L2.St} {H H' H1 : Hp} {Post P : B → Prop} {te ta tb td ty tk tv tx : TE} {t tr : TA} {Z Z' : AS} {o : Sr} {t1 t2 : TS} {e : En} {g g1 : TG} {wi wi1 : TI} {tt tt1 c : TT} {ws ws1 : List Nat} {ks : List Key} {ds xs : List B} {kt : List (List Key)}
/-- len(d), no dict is walked -/
theorem lenDk (hU : G.U) (q : Post (.int (ks.length : Nat))) : bwRA G K SF.rLenDk [.dct ks ds] Post := fun W Γ σ H vs Q E r k => by
  obtain ⟨v, r', rfl, r1, r2⟩ := rps_cons.mp r
  obtain rfl := rps_nil.mp r2
  obtain ⟨p, vs, rfl, hz, h1, hl, h2⟩ := rp_dct.mp r1
  rcases h1 with h1 | ⟨hL, _⟩
  · exact ⟨p, _, rfl, h1, by rw [zip_len hl]; exact k _ _ H q Kp.refl E (rp_int.mpr rfl)⟩
  · exact absurd hL (E.lk.1 hU p)
/-! ### in, of texts -/
theorem inV_strs {z : Str} : ∀ {ss : List Str}, inV (.str z) (ss.map V.str) = decide (z ∈ ss)
  | [] => by simp [inV]
  | s :: ss => by
    have ih := inV_strs (z := z) (ss := ss)
    unfold inV at ih ⊢
    rw [List.map_cons, List.any_cons, ih]
    show ((s == z) || decide (z ∈ ss)) = _
    by_cases e : z = s
    · subst e
      simp
    · rw [show (s == z) = false from beq_eq_false_iff_ne.mpr (Ne.symm e), Bool.false_or]
      exact decide_eq_decide.mpr (by simp [e])
theorem flat_strs : ∀ {ss : List Str}, (ss.map V.str).all flatV = true
  | [] => rfl
  | s :: ss => by rw [List.map_cons, List.all_cons, flat_strs]; rfl
theorem inTs {z : Str} {ss : List Str} (q : Post (.bl (decide (z ∈ ss)))) : bwR2 G K (rIn K false) (.str z) (.tup (ss.map B.str)) Post := fun W Γ σ H v u Q E r1 r2 k => by
  rw [rp_str.mp r1]
  obtain ⟨p, vs, rfl, h1, h2⟩ := rp_tup.mp r2
  have := rps_strs h2
  subst this
  exact ⟨p, _, rfl, .inr h1.sq, rfl, flat_strs, k _ _ H q Kp.refl E (rp_bl.mpr (by rw [if_neg Bool.false_ne_true, inV_strs]))⟩
/-! ### keyed by tuples -/
end
end BV
set_option Elab.async false
set_option linter.all false
set_option maxRecDepth 100000
set_option maxHeartbeats 4000000
/-! what the text writes down: tables, rows of words -/
set_option Elab.async false
set_option linter.all false
set_option maxRecDepth 100000
set_option maxHeartbeats 4000000
/-! names, of plain data -/
namespace SF
open PySem PySem.Spec PyProof.Rows L2 G0 BV
open C8 (Cal Mak Met pe_c pe_mk pe_mt pe_mt0 pe_gc)
/-- the built-ins and the numbers of the program's first part -/
structure TxtP (K : PySem.W.Frag) (mg : Str → Option Value) : Prop extends TxtD K mg where
  b_isinstance : mg "isinstance" = none
  b_str : mg "str" = none
  b_tuple : mg "tuple" = none
  b_dict : mg "dict" = none
  b_all : mg "all" = none
  b_any : mg "any" = none
  b_set : mg "set" = none
  b_zip : mg "zip" = none
  b_sorted : mg "sorted" = none
  b_enumerate : mg "enumerate" = none
  b_reversed : mg "reversed" = none
  b_min : mg "min" = none
  b_bool : mg "bool" = none
  g_MOST_LETTERS : Int1 mg "MOST_LETTERS" 8
  g_MOST_STATEMENTS : Int1 mg "MOST_STATEMENTS" 12
  g_MOST_BLOCKS : Int1 mg "MOST_BLOCKS" 8
  g_MOST_TESTS : Int1 mg "MOST_TESTS" 3
  g_MOST_THINGS : Int1 mg "MOST_THINGS" 3
  g_MOST_PARAMS : Int1 mg "MOST_PARAMS" 3
  g_MOST_FIELDS : Int1 mg "MOST_FIELDS" 3
  g_MOST_WORDS : Int1 mg "MOST_WORDS" 4
  g_MOST_METHODS : Int1 mg "MOST_METHODS" 5
mutual
/-- plain data, its texts not too long -/
def pdB : B → Bool
  | .non => true
  | .bl _ => true
  | .int _ => true
  | .str z => decide (z.length ≤ 1000)
  | .tup ds => pdsB ds
  | .lst ds => pdsB ds
  | .dct ks ds => decide (ks.length = ds.length) && (ks.all (fun k => match k with
    | .inl _ => true
    | .inr z => decide (z.length ≤ 1000)) && pdsB ds)
  | .src => false
  | .raw _ => false
  | .xc _ _ _ _ => false
  | .obj _ _ _ => false
  | .dcT _ _ => false
  | .mu _ => false
def pdsB : List B → Bool
  | [] => true
  | d :: ds => pdB d && pdsB ds
end
theorem pds_all : ∀ {ds : List B}, pdsB ds = ds.all pdB
  | [] => by rw [pdsB]; rfl
  | d :: ds => by rw [pdsB, pds_all, List.all_cons]
theorem pds_at {ds : List B} {i : Nat} {d : B} (h : pdsB ds = true) (e : ds[i]? = some d) : pdB d = true := by
  rw [pds_all] at h
  exact List.all_eq_true.mp h d (List.mem_of_getElem? e)
theorem pd_dct {ks : List Key} {ds : List B} (h : pdB (.dct ks ds) = true) : ks.length = ds.length ∧ ks.all (fun k => match k with
    | .inl _ => true
    | .inr z => decide (z.length ≤ 1000)) = true ∧ pdsB ds = true := by
  rw [pdB, Bool.and_eq_true, Bool.and_eq_true] at h
  exact ⟨of_decide_eq_true h.1, h.2.1, h.2.2⟩
theorem pd_plain {x : B} (h : pdB x = true) : isPlainB x = true := by
  cases x <;> simp [pdB, isPlainB] at h ⊢
def nameB : B → Bool
  | .str z => nameS z
  | _ => false
def shortB : B → Bool
  | .str z => decide (z.length ≤ 1000000)
  | _ => true
theorem pd_short {x : B} (h : pdB x = true) : shortB x = true := by
  cases x <;> simp [pdB, shortB] at h ⊢
  omega
def nameK : Key → Bool
  | .inl _ => false
  | .inr z => nameS z
/-- its texts -/
def txts : List B → List Str
  | [] => []
  | .str z :: r => z :: txts r
  | _ :: r => txts r
theorem txts_names : ∀ {ds : List B}, ds.all nameB = true → ds = (txts ds).map B.str
  | [], _ => rfl
  | d :: ds, h => by
    rw [List.all_cons, Bool.and_eq_true] at h
    have := txts_names h.2
    cases d with
    | str z =>
      show _ = B.str z :: (txts ds).map B.str
      rw [← this]
    | _ => simp [nameB] at h
/-- lo to hi names, no two alike -/
def namesB (lo hi : Nat) : B → Bool
  | .tup ds => decide (lo ≤ ds.length) && (decide (ds.length ≤ hi) && (ds.all nameB && decide (txts ds).Nodup))
  | _ => false
def nameDB (most : Nat) : B → Bool
  | .dct ks _ => decide (ks.length ≤ most) && ks.all nameK
  | _ => false
theorem uniq_len (ss : List Str) : decide (((G12.uniq ss).length : Int) = (ss.length : Int)) = decide ss.Nodup := by
  refine decide_eq_decide.mpr ?_
  have h := G2.met_full (fun i => ss.getD i Str.empty) ss.length
  have e : (((G12.uniq ss).length : Int) = (ss.length : Int)) ↔ (G2.met (fun i => ss.getD i Str.empty) ss.length).length = ss.length := by
    unfold G12.uniq
    omega
  rw [e, h, List.Nodup, List.pairwise_iff_getElem]
  constructor
  · intro q i j hi hj hij e2
    have := q i j hi hj (by rw [List.getD_eq_getElem?_getD, List.getD_eq_getElem?_getD, List.getElem?_eq_getElem hi, List.getElem?_eq_getElem hj]; exact e2)
    omega
  · intro q i j hi hj e2
    rw [List.getD_eq_getElem?_getD, List.getD_eq_getElem?_getD, List.getElem?_eq_getElem hi, List.getElem?_eq_getElem hj] at e2
    have e2 : ss[i] = ss[j] := e2
    rcases Nat.lt_trichotomy i j with z | z | z
    · exact absurd e2 (q i j hi hj z)
    · exact z
    · exact absurd e2.symm (q j i hj hi z)
def WIsName (bs : List B) (R : B → Prop) : Prop := ∃ x, bs = [x] ∧ isPlainB x = true ∧ shortB x = true ∧ R (.bl (nameB x))
def WIsNames (bs : List B) (R : B → Prop) : Prop := ∃ x lo hi, bs = [x, .int (lo : Nat), .int (hi : Nat)] ∧ pdB x = true ∧ hi ≤ 100 ∧ R (.bl (namesB lo hi x))
def WIsNameD (bs : List B) (R : B → Prop) : Prop := ∃ x most, bs = [x, .int (most : Nat)] ∧ pdB x = true ∧ most ≤ 100 ∧ R (.bl (nameDB most x))
section
variable {P : Program} {w : World} {K : PySem.W.Frag} {mg : Str → Option Value} {base : Heap}
set_option synthInstance.maxSize 100000
set_option synthInstance.maxHeartbeats 0
local macro_rules | `(tactic| walk_at "bvg2") => `(tactic| first
  | ((with_reducible refine And.intro (show List.length _ ≤ sizeLine from ?hz) ?_); (case hz => exact Nat.le_of_ble_eq_true rfl)) | ((with_reducible refine And.intro (show List.length _ < sizeLine from ?hz) ?_); (case hz => exact Nat.le_of_ble_eq_true rfl))
  | ((with_reducible refine RD.ifDT ?hd ?_); (case hd => first | decide +kernel | exact rfl)) | ((with_reducible refine RD.ifDF ?hd ?_); (case hd => first | decide +kernel | exact rfl))
  | ((with_reducible refine BV.catT ?hz ?_); (case hz => exact Nat.le_of_ble_eq_true rfl)) | ((with_reducible refine BV.catL ?hz ?_); (case hz => exact Nat.le_of_ble_eq_true rfl))
  | (with_reducible refine BV.ofN (BV.dNew ?_))
  | ((with_reducible apply BV.gtup); exact rfl)
  | ((with_reducible refine BV.vname ?hh ?_); (case hh => decide)) | ((with_reducible apply BV.vtup); exact rfl))
local macro_rules | `(tactic| walk_at "bvg1") => `(tactic| first
  | (with_reducible refine BV.strJoin ?_)
  | (with_reducible first | refine BV.i0 ?_ | refine BV.i0b ?_)
  | ((with_reducible apply BV.ixT); exact rfl) | (with_reducible refine BV.ixT BV.at0' ?_) | ((with_reducible apply BV.ixL); exact rfl)
  | ((with_reducible apply BV.lenO); exact rfl)
  | ((with_reducible refine BV.isi ?hh ?hp ?_); (case hh => decide +kernel); (case hp => exact rfl)) | ((with_reducible refine BV.isN ?hp ?_); (case hp => exact rfl)) | ((with_reducible refine BV.notN ?hp ?_); (case hp => exact rfl)))
local macro_rules | `(tactic| walk_at "bvg0") => `(tactic| first
  | ((with_reducible apply BV.var); exact rfl)
  | ((with_reducible apply BV.retO); exact rfl) | (with_reducible refine BV.ret ?_) | ((with_reducible apply BV.asgPop); exact rfl) | (with_reducible refine BV.asg ?_) | ((with_reducible apply BV.asgPopG); exact rfl) | (with_reducible refine BV.asgG ?_)
  | ((with_reducible apply BV.append); exact rfl) | ((with_reducible apply BV.extend); exact rfl) | ((with_reducible apply BV.augI); exact rfl) | ((with_reducible apply BV.truO); exact rfl) | (with_reducible refine BV.dropE ?_)
  | ((with_reducible refine BV.isiT2 ?h1 ?h2 ?_); (case h1 => decide +kernel); (case h2 => decide +kernel)) | ((with_reducible refine And.intro (show isPlainB _ = true from ?hz) ?_); (case hz => exact rfl)) | ((with_reducible refine BV.listVals ?hu ?_); (case hu => trivial)))
local macro_rules | `(tactic| walk_at "bvgu") => `(tactic| first
  | ((with_reducible apply SL.ixT); exact rfl) | (with_reducible refine SL.ixT SL.at0U ?_) | (with_reducible refine SL.ixT SL.at1U ?_)
  | ((with_reducible apply SL.fldAt); (case hs => assumption); (case kc => assumption); (case hf => decide); (case hu => exact rfl))
  | ((with_reducible apply SL.methAt); (case hs => assumption); (case hm => decide)))
local macro_rules | `(tactic| walk_at "bv1") => `(tactic| first | (with_reducible refine BVSt.mp ?_) | walk_at "bvg0" | walk_at "bvg1" | walk_at "bvg2")
local macro_rules | `(tactic| walk_at "bv") => `(tactic| repeat first | (with_reducible refine bvRun ?_) | (with_reducible refine BVSt.mp ?_) | walk_at "bvg0" | walk_at "bvg1" | walk_at "bvg2")
local macro_rules | `(tactic| walk_at "bu") => `(tactic| repeat first | (with_reducible refine bvRun ?_) | (with_reducible refine BVSt.mp ?_) | walk_at "bvgu" | walk_at "bvg0" | walk_at "bvg1" | walk_at "bvg2")
theorem sc_is_name : FnScope ["thing"] ["thing"] (defScope (topS 14)) := ⟨rfl, rfl, rfl, by decide +kernel, rfl, by decide +kernel, by decide +kernel⟩
theorem ok_isName (T : TxtP K mg) {f : Addr} {fd : FuncData} (F : Fun K "is_name" "is_name" (topS 14) f fd) : FnOk P w K mg base CX0 1 f fd ["thing"] (SpB G3.lo K WIsName) := by
  refine F.ok sc_is_name (fun vs H Q E h => spLen (fun bs R hW => by obtain ⟨x, rfl, _⟩ := hW; rfl) h) (fun cdv A outer s H vs Q E hr h => ?_)
  obtain ⟨vMOST_LETTERS, eL, rL⟩ := T.g_MOST_LETTERS
  refine ⟨_, (pss_cons (ps_if ((pw_or (pt_not (pt_val (pe_callB call_isi (by rfl) T.b_isinstance (by decide +kernel) (pa_cons (pv 0) (pa_cons (pe_bltn (v := .ty "str") (by rfl) T.b_str (by decide +kernel) rfl) pa_nil))))) (pw_or1 (pt_cmpR op_gt (pe_callB call_lenT (by rfl) T.b_len PySem.boot_len (pa_cons (pv 0) pa_nil)) (pe_gc (by rfl) T.g_MOST_LETTERS) (nomark _))))).pt (pss_one (ps_ret pe_bl)) pss_nil)
      (pss_one (ps_ret (pe_and (pe_bm0 PySem.F.plainAttrs_str PySem.F.slot_str_isascii PySem.F.type_str_isascii mt_isascii (pv 0)) (pe_and (pe_bm0 PySem.F.plainAttrs_str PySem.F.slot_str_isalpha PySem.F.type_str_isalpha mt_isalpha (pv 0)) (pe_one (pe_bm0 PySem.F.plainAttrs_str PySem.F.slot_str_islower PySem.F.type_str_islower mt_islower (pv 0)))))))), ?_⟩
  refine body h _ fun bs R hW hl => ?_
  obtain ⟨x, rfl, hp, hs, hq⟩ := hW
  change bwS G3.lo K _ [.sh (x)] _
  try dsimp only [cxOf, Cx.nox]
  cases x with
  | src => cases hp
  | raw _ => cases hp
  | xc _ _ _ _ => cases hp
  | obj _ _ _ => cases hp
  | dcT _ _ => cases hp
  | mu _ => cases hp
  | str z =>
    have e0 : nameB (.str z) = nameS z := rfl
    walk_at "bv"
    refine lenS (of_decide_eq_true hs) ?_
    walk_at "bv"
    have both : nameS z = (decide (z.length ≤ 8) && (Txt.isascii z && (Txt.isalpha z && Txt.islower z))) := rfl
    refine ite2 (fun h8 => ?_) (fun h8 => ?_)
    · have h8' := of_decide_eq_true h8
      rw [e0, both, decide_eq_false (show ¬ z.length ≤ 8 by omega), Bool.false_and] at hq
      walk_at "bv"
      exact hq
    · have h8' := of_decide_eq_false (eq_false_of_ne_true h8)
      rw [e0, both, decide_eq_true (show z.length ≤ 8 by omega), Bool.true_and] at hq
      walk_at "bv"
      refine ite2 (fun h1 => ?_) (fun h1 => ?_)
      · rw [h1] at hq
        walk_at "bv"
        refine ite2 (fun h2 => ?_) (fun h2 => ?_)
        · rw [h2] at hq
          walk_at "bv"
          exact hq
        · rw [eq_false_of_ne_true h2] at hq
          walk_at "bv"
          exact hq
      · rw [eq_false_of_ne_true h1] at hq
        walk_at "bv"
        exact hq
  | _ =>
    walk_at "bv"
    exact hq
theorem sc_is_names : FnScope ["thing", "least", "most", "part"] ["thing", "least", "most"] (defScope (topS 15)) := ⟨rfl, rfl, rfl, by decide +kernel, rfl, by decide +kernel, by decide +kernel⟩
theorem ok_isNames (T : TxtP K mg) (c_is_name : Cal P w K mg base 1 "is_name" (SpB G3.lo K WIsName) []) {f : Addr} {fd : FuncData} (F : Fun K "is_names" "is_names" (topS 15) f fd) : FnOk P w K mg base CX0 2 f fd ["thing", "least", "most"] (SpB G3.lo K WIsNames) := by
  refine F.ok sc_is_names (fun vs H Q E h => spLen (fun bs R hW => by obtain ⟨x, lo, hi, rfl, _⟩ := hW; rfl) h) (fun cdv A outer s H vs Q E hr h => ?_)
  refine ⟨_, (pss_cons (ps_if ((pw_or (pt_not (pt_val (pe_callB call_isi (by rfl) T.b_isinstance (by decide +kernel) (pa_cons (pv 0) (pa_cons (pe_bltn (v := .ty "tuple") (by rfl) T.b_tuple (by decide +kernel) rfl) pa_nil))))) (pw_or1 (pt_not (pt_chain op_le op_le (pv 1) (pe_callB (r := SF.rLenQ K) call_lenQ (by rfl) T.b_len PySem.boot_len (pa_cons (pv 0) pa_nil)) (pv 2)))))).pt (pss_one (ps_ret pe_bl)) pss_nil)
      (pss_one (ps_ret (pe_and (pe_callB (cr_all rfl) (by rfl) T.b_all (by decide +kernel) (pa_cons (pe_lc (own := [("part", 3)]) (tt := tYes) rfl sc_is_names.nd (pi_tup (pv 0)) (blkOk_by (N := ["thing", "least", "most", "part"]) (sc := defScope (topS 15)) (by decide +kernel)) (fun _ _ _ _ _ => (pg_name (i := 3) sc_is_names.nd rfl (Or.inl rfl))) (fun _ _ _ _ _ => pts_nil) (fun _ _ _ _ _ => (pe_c c_is_name hr (by decide) (by rfl) (pa_cons (pv 3) pa_nil)))) pa_nil)) (pe_one (pe_cmpR op_eq (pe_lenSetT rfl (by rfl) T.b_len (by rfl) T.b_set (pv 0)) (pe_callB (r := SF.rLenQ K) call_lenQ (by rfl) T.b_len PySem.boot_len (pa_cons (pv 0) pa_nil)) (nomark _))))))), ?_⟩
  refine body h _ fun bs R hW hl => ?_
  obtain ⟨x, lo, hi, rfl, hp, hh, hq⟩ := hW
  change bwS G3.lo K _ [.sh (x), .sh (.int (lo : Nat)), .sh (.int (hi : Nat)), .no] _
  try dsimp only [cxOf, Cx.nox]
  cases x with
  | src => cases hp
  | raw _ => cases hp
  | xc _ _ _ _ => cases hp
  | obj _ _ _ => cases hp
  | dcT _ _ => cases hp
  | mu _ => cases hp
  | tup ds =>
    have e0 : namesB lo hi (.tup ds) = (decide (lo ≤ ds.length) && (decide (ds.length ≤ hi) && (ds.all nameB && decide (txts ds).Nodup))) := rfl
    have hp' : pdsB ds = true := hp
    rw [e0] at hq
    have lM := sizeLine_eq
    walk_at "bv"
    refine ite2 (fun h1 => ?_) (fun h1 => ?_)
    · have h1' : lo ≤ ds.length := by have := of_decide_eq_true h1; omega
      rw [decide_eq_true h1', Bool.true_and] at hq
      walk_at "bv"
      refine ite2 (fun h2 => ?_) (fun h2 => ?_)
      · have h2' : ¬ ds.length ≤ hi := by simp at h2; omega
        rw [decide_eq_false h2', Bool.false_and] at hq
        walk_at "bv"
        exact hq
      · have h2' : ds.length ≤ hi := by simp at h2; omega
        rw [decide_eq_true h2', Bool.true_and] at hq
        walk_at "bv"
        refine ofN (lcMap (fun d => .bl (nameB d)) ?_)
        walk_at "bv"
        refine ⟨by omega, fun i d hd => ?_, ?_⟩
        · walk_at "bv"
          exact ⟨d, rfl, pd_plain (pds_at hp' hd), pd_short (pds_at hp' hd), rfl⟩
        · rw [show ds.map (fun d => B.bl (nameB d)) = (ds.map nameB).map B.bl by rw [List.map_map]; rfl]
          walk_at "bv"
          refine all_ ?_
          rw [List.all_map]
          walk_at "bv"
          refine ite2 (fun h3 => ?_) (fun h3 => ?_)
          · have h3' : ds.all nameB = true := h3
            rw [h3', Bool.true_and] at hq
            have e1 := txts_names h3'
            walk_at "bv"
            refine lenSet ?_
            walk_at "bv"
            have e2 : (txts ds).length = ds.length := by rw [← List.length_map (f := B.str), ← e1]
            refine ⟨txts ds, by rw [← e1], by omega, ?_⟩
            walk_at "bv"
            rw [← e2, uniq_len]
            exact hq
          · have h3' : ds.all nameB = false := eq_false_of_ne_true h3
            rw [h3', Bool.false_and] at hq
            exact hq
    · have h1' : ¬ lo ≤ ds.length := by simp at h1; omega
      rw [decide_eq_false h1', Bool.false_and] at hq
      walk_at "bv"
      exact hq
  | _ =>
    walk_at "bv"
    exact hq
theorem sc_is_name_dict : FnScope ["thing", "most", "key"] ["thing", "most"] (defScope (topS 16)) := ⟨rfl, rfl, rfl, by decide +kernel, rfl, by decide +kernel, by decide +kernel⟩
theorem ok_isNameD (T : TxtP K mg) (c_is_name : Cal P w K mg base 1 "is_name" (SpB G3.lo K WIsName) []) {f : Addr} {fd : FuncData} (F : Fun K "is_name_dict" "is_name_dict" (topS 16) f fd) : FnOk P w K mg base CX0 2 f fd ["thing", "most"] (SpB G3 K WIsNameD) := by
  refine F.ok sc_is_name_dict (fun vs H Q E h => spLen (fun bs R hW => by obtain ⟨x, most, rfl, _⟩ := hW; rfl) h) (fun cdv A outer s H vs Q E hr h => ?_)
  refine ⟨_, (pss_cons (ps_if ((pw_or (pt_not (pt_val (pe_callB call_isi (by rfl) T.b_isinstance (by decide +kernel) (pa_cons (pv 0) (pa_cons (pe_bltn (v := .ty "dict") (by rfl) T.b_dict (by decide +kernel) rfl) pa_nil))))) (pw_or1 (pt_cmpR op_gt (pe_callB call_lenDk (by rfl) T.b_len PySem.boot_len (pa_cons (pv 0) pa_nil)) (pv 1) (nomark _))))).pt (pss_one (ps_ret pe_bl)) pss_nil)
      (pss_one (ps_ret (pe_callB (cr_all rfl) (by rfl) T.b_all (by decide +kernel) (pa_cons (pe_lock (pe_lc (own := [("key", 2)]) (tt := tYes) rfl sc_is_name_dict.nd (pi_keys (pv 0)) (blkOk_by (N := ["thing", "most", "key"]) (sc := defScope (topS 16)) (by decide +kernel)) (fun _ _ _ _ _ => (pg_name (i := 2) sc_is_name_dict.nd rfl (Or.inl rfl))) (fun _ _ _ _ _ => pts_nil) (fun _ _ _ _ _ => (pe_c c_is_name hr (by decide) (by rfl) (pa_cons (pv 2) pa_nil))))) pa_nil))))), ?_⟩
  refine body h _ fun bs R hW hl => ?_
  obtain ⟨x, most, rfl, hp, hm, hq⟩ := hW
  change bwS G3 K _ [.sh (x), .sh (.int (most : Nat)), .no] _
  try dsimp only [cxOf, Cx.nox]
  cases x with
  | src => cases hp
  | raw _ => cases hp
  | xc _ _ _ _ => cases hp
  | obj _ _ _ => cases hp
  | dcT _ _ => cases hp
  | mu _ => cases hp
  | dct ks ds =>
    have e0 : nameDB most (.dct ks ds) = (decide (ks.length ≤ most) && ks.all nameK) := rfl
    rw [e0] at hq
    have lM := sizeLine_eq
    walk_at "bv"
    refine lenDk trivial ?_
    walk_at "bv"
    refine ite2 (fun h1 => ?_) (fun h1 => ?_)
    · have h1' : ¬ ks.length ≤ most := by have := of_decide_eq_true h1; omega
      rw [decide_eq_false h1', Bool.false_and] at hq
      walk_at "bv"
      exact hq
    · have h1' : ks.length ≤ most := by have := of_decide_eq_false (eq_false_of_ne_true h1); omega
      rw [decide_eq_true h1', Bool.true_and] at hq
      walk_at "bv"
      refine lcKeys trivial rfl (lcT_map (fun d => .bl (nameB d)) (by rw [List.length_map]; omega) (fun i d hd => ?_) ?_)
      · rw [List.getElem?_map] at hd
        cases e : ks[i]? with
        | none => rw [e] at hd; cases hd
        | some k =>
          rw [e] at hd
          obtain rfl := (Option.some.inj hd).symm
          have hs : shortB (keyB k) = true := by
            have := List.all_eq_true.mp (pd_dct hp).2.1 k (List.mem_of_getElem? e)
            cases k with
            | inl i => rfl
            | inr z =>
              have := of_decide_eq_true this
              exact decide_eq_true (show z.length ≤ 1000000 by omega)
          walk_at "bv"
          exact ⟨_, rfl, by cases k <;> rfl, hs, rfl⟩
      · rw [show (ks.map keyB).map (fun d => B.bl (nameB d)) = (ks.map nameK).map B.bl by
          rw [List.map_map, List.map_map]
          refine List.map_congr_left fun k _ => ?_
          cases k <;> rfl]
        walk_at "bv"
        refine all_ ?_
        rw [List.all_map]
        exact hq
  | _ =>
    walk_at "bv"
    exact hq
end
end SF
set_option Elab.async false
set_option linter.all false
set_option maxRecDepth 100000
set_option maxHeartbeats 4000000
/-! forms: what stands where -/
namespace SF
open PySem PySem.Spec PyProof.Rows L2 G0 BV
open C8 (Cal Mak Met pe_c pe_mk pe_mt pe_mt0 pe_gc)
/-- what an outermost block may name: none: new things of any class -/
structure PlD where
  nc : Option (List Key)
  own : List Key
  im : Bool
  hp : Bool
def plFs : List Str := ["new_classes", "own_fields", "in_method", "has_parent"]
def ncB (o : Option (List Key)) (ds : List B) : B := match o with
  | none => .non
  | some ks => .dct ks ds
structure PlK (K : PySem.W.Frag) (C : Addr) : Prop where
  cl : Cls K C
  n1 : NoAttr K C "new_classes"
  n2 : NoAttr K C "own_fields"
  n3 : NoAttr K C "in_method"
  n4 : NoAttr K C "has_parent"
def mayS (pl : PlD) (w : Str) (ret : Bool) : Bool := if w = "me" then pl.im else if w = "parent" then pl.hp else if w = "return" then ret else true
def formF (k : Str) : List B → Option (List Str)
  | .str w :: _ => if k = "statement" then tabSt.lookup w else if k = "test" then tabT.lookup w else if k = "right" ∧ w ∈ tabC.map (·.1) then tabC.lookup w else tabS.lookup w
  | _ => none
/-- a part, its kind, where it stands -/
structure Pt where
  k : Str
  b : B
  deep : Nat
  ret : Bool
  tests : Nat
def spotB (deep : Nat) (ret : Bool) (tests : Nat) : B := .tup [.int (deep : Nat), .bl ret, .int (tests : Nat)]
def ptB (p : Pt) : B := .tup [.str p.k, p.b, spotB p.deep p.ret p.tests]
def leafF (pl : PlD) (k : Str) (b : B) : Bool := if k = "params" then namesB 0 3 b else match b with
  | .str z => nameS z && (if k = "field" then (getB pl.own (pl.own.map fun _ => .non) (.inr z)).isSome else (decide (k = "name") || match pl.nc with
    | none => true
    | some ks => (getB ks (ks.map fun _ => .non) (.inr z)).isSome))
  | _ => false
def stmF (ps : List B) (deep : Nat) (ret : Bool) : Option (List Pt) := if deep = 8 ∨ 12 < ps.length then none else some (ps.map fun b => ⟨"statement", b, deep + 1, ret, 0⟩)
def wordOf : List B → Str
  | .str w :: _ => w
  | _ => Str.empty
def tstF (k : Str) (t : Nat) : Nat := if k = "test" then t + 1 else t
def frmF (pl : PlD) (k : Str) (ps : List B) (deep : Nat) (ret : Bool) (tests : Nat) : Option (List Pt) := match formF k ps with
  | none => none
  | some fm => if ps.length = 1 + fm.length ∧ tstF k tests ≤ 3 ∧ mayS pl (wordOf ps) ret = true then some ((fm.zip ps.tail).map fun q => ⟨q.1, q.2, deep, ret, tstF k tests⟩) else none
def innF (pl : PlD) (p : Pt) : Option (List Pt) := if p.k = "name" ∨ p.k = "field" ∨ p.k = "class" ∨ p.k = "params" then (if leafF pl p.k p.b = true then some [] else none) else match p.b with
  | .tup ps => if p.k = "block" then stmF ps p.deep p.ret else if p.k = "function" then stmF ps p.deep true else if p.k = "things" then (if 3 < ps.length then none else some (ps.map fun b => ⟨"simple", b, p.deep, p.ret, p.tests⟩)) else frmF pl p.k ps p.deep p.ret p.tests
  | _ => none
def optB (o : Option (List Pt)) : B := match o with
  | none => .non
  | some l => .lst (l.map ptB)
theorem get_isSome {k : Key} : ∀ {ks : List Key} {ds es : List B}, ks.length = ds.length → ks.length = es.length → (getB ks ds k).isSome = (getB ks es k).isSome
  | [], [], [], _, _ => rfl
  | a :: ks, d :: ds, e :: es, h1, h2 => by
    have := get_isSome (k := k) (ks := ks) (ds := ds) (es := es) (Nat.succ.inj h1) (Nat.succ.inj h2)
    unfold getB at this ⊢
    rw [List.zip_cons_cons, List.zip_cons_cons, List.find?_cons, List.find?_cons]
    by_cases h : a = k
    · simp [h]
    · simp only [h, decide_false]
      exact this
theorem sfldR {K : PySem.W.Frag} {ta tv : TE} {f : Str} {σ : L2.St} {H : Hp} {D : Ends} (h : tv σ H fun y H1 => ta σ H1 fun x H2 => ∃ a C dx fs, x = .ref a ∧ H2 a = some (.ins C dx fs) ∧ Cls K C ∧ NoAttr K C f ∧ fs.length < 1000 ∧ D.nx σ (upd H2 a (.ins C dx (putF f y fs)))) : sFld K ta tv f D σ H := h
theorem look_len {z : Str} {fs : List Str} : ∀ {tab : TabS}, tab.all (fun q => decide (q.2.length ≤ 3)) = true → tab.lookup z = some fs → fs.length ≤ 3
  | [], _, h => by cases h
  | (a, b) :: r, ha, h => by
    rw [List.all_cons, Bool.and_eq_true] at ha
    rw [List.lookup_cons] at h
    split at h
    · rw [← Option.some.inj h]
      exact of_decide_eq_true ha.1
    · exact look_len ha.2 h
theorem form_len {k : Str} {ps : List B} {fm : List Str} (h : formF k ps = some fm) : fm.length ≤ 3 := by
  unfold formF at h
  split at h
  · split at h
    · exact look_len (by decide +kernel) h
    · split at h
      · exact look_len (by decide +kernel) h
      · split at h
        · exact look_len (by decide +kernel) h
        · exact look_len (by decide +kernel) h
  · cases h
theorem pairsAt {xs ys : List B} {i : Nat} {d : B} (h : (pairs xs ys)[i]? = some d) : ∃ x y, xs[i]? = some x ∧ ys[i]? = some y ∧ d = .tup [x, y] := by
  unfold pairs at h
  rw [List.getElem?_map] at h
  cases e : (xs.zip ys)[i]? with
  | none => rw [e] at h; cases h
  | some q =>
    rw [e] at h
    obtain ⟨h1, h2⟩ := List.getElem?_zip_eq_some.mp e
    exact ⟨_, _, h1, h2, (Option.some.inj h).symm⟩
theorem pairsLen {xs ys : List B} : (pairs xs ys).length ≤ xs.length := by
  unfold pairs
  rw [List.length_map, List.length_zip]
  exact Nat.min_le_left _ _
section
variable {P : Program} {w : World} {K : PySem.W.Frag} {mg : Str → Option Value} {base : Heap} {C : Addr}
local macro_rules | `(tactic| walk_at "rd1") => `(tactic| first
  | (with_reducible refine RD.seq ?_) | (with_reducible refine RD.next ?_) | (with_reducible refine RD.ifS ?_) | (with_reducible refine RD.ret ?_) | (with_reducible refine RD.retN ?_) | (with_reducible refine RD.drop ?_) | (with_reducible refine RD.asg ?_) | (with_reducible refine RD.gname ?_)
  | ((with_reducible apply RD.var); exact rfl) | (with_reducible refine RD.c_ ?_) | (with_reducible refine RD.op ?_) | (with_reducible refine RD.un ?_) | (with_reducible refine RD.cb ?_) | (with_reducible refine RD.cons ?_) | (with_reducible refine RD.nil ?_) | (with_reducible refine RD.tup ?_) | (with_reducible refine RD.lst ?_)
  | (with_reducible refine RD.B_ ?_) | (with_reducible refine RD.test ?_) | (with_reducible refine RD.exB ?_) | (with_reducible refine RD.exI ?_) | (with_reducible refine RD.and_ ?_) | (with_reducible refine RD.or_ ?_) | (with_reducible refine RD.not_ ?_) | (with_reducible refine RD.andV ?_) | (with_reducible refine RD.orV ?_) | (with_reducible refine RD.notV ?_) | (with_reducible refine RD.if_ ?_)
  | (with_reducible refine RD.ifT ?_) | (with_reducible refine RD.ifF ?_) | (with_reducible refine RD.ifNT ?_) | (with_reducible refine RD.ifNF ?_) | (with_reducible refine RD.yes ?_) | (with_reducible refine RD.sl ?_) | (with_reducible refine RD.noPart ?_) | (with_reducible refine RD.part ?_) | (with_reducible refine RD.i0 ?_) | (with_reducible refine RD.eqS ?_) | (with_reducible refine RD.eqI ?_) | (with_reducible refine RD.neS ?_) | (with_reducible refine RD.neI ?_)
  | (with_reducible refine RD.isN_n ?_) | (with_reducible refine RD.isN_r ?_) | (with_reducible refine RD.isN_s ?_) | (with_reducible refine RD.isN_b ?_) | (with_reducible refine RD.isN_i ?_) | (with_reducible refine RD.notN_n ?_) | (with_reducible refine RD.notN_r ?_) | (with_reducible refine RD.notN_s ?_)
  | (with_reducible refine RD.call ?_) | (with_reducible refine RD.make ?_) | (with_reducible refine RD.gcons ?_) | (with_reducible refine RD.gnil ?_) | (with_reducible refine RD.bm ?_) | (with_reducible refine RD.bm0 ?_) | (with_reducible refine RD.dget ?_) | (with_reducible refine RD.din ?_) | (with_reducible refine RD.tfld ?_) | (with_reducible refine RD.then_ ?_) | (with_reducible refine RD.chain ?_) | (with_reducible refine RD.itup ?_) | (with_reducible refine RD.ikeys ?_) | (with_reducible refine RD.ivals ?_) | (with_reducible refine RD.iitems ?_) | (with_reducible refine RD.lset ?_) | (with_reducible refine RD.ilist ?_) | ((with_reducible apply RD.aug); exact rfl))
local macro_rules | `(tactic| walk_at "rd") => `(tactic| repeat walk_at "rd1")
set_option synthInstance.maxSize 100000
set_option synthInstance.maxHeartbeats 0
local macro_rules | `(tactic| walk_at "bvg2") => `(tactic| first
  | ((with_reducible refine And.intro (show List.length _ ≤ sizeLine from ?hz) ?_); (case hz => exact Nat.le_of_ble_eq_true rfl)) | ((with_reducible refine And.intro (show List.length _ < sizeLine from ?hz) ?_); (case hz => exact Nat.le_of_ble_eq_true rfl))
  | ((with_reducible refine RD.ifDT ?hd ?_); (case hd => first | decide +kernel | exact rfl)) | ((with_reducible refine RD.ifDF ?hd ?_); (case hd => first | decide +kernel | exact rfl))
  | ((with_reducible refine BV.catT ?hz ?_); (case hz => exact Nat.le_of_ble_eq_true rfl)) | ((with_reducible refine BV.catL ?hz ?_); (case hz => exact Nat.le_of_ble_eq_true rfl))
  | (with_reducible refine BV.ofN (BV.dNew ?_))
  | ((with_reducible apply BV.gtup); exact rfl)
  | ((with_reducible refine BV.vname ?hh ?_); (case hh => decide)) | ((with_reducible apply BV.vtup); exact rfl))
local macro_rules | `(tactic| walk_at "bvg1") => `(tactic| first
  | (with_reducible refine BV.strJoin ?_)
  | (with_reducible first | refine BV.i0 ?_ | refine BV.i0b ?_)
  | ((with_reducible apply BV.ixT); exact rfl) | (with_reducible refine BV.ixT BV.at0' ?_) | ((with_reducible apply BV.ixL); exact rfl)
  | ((with_reducible apply BV.lenO); exact rfl)
  | ((with_reducible refine BV.isi ?hh ?hp ?_); (case hh => decide +kernel); (case hp => exact rfl)) | ((with_reducible refine BV.isN ?hp ?_); (case hp => exact rfl)) | ((with_reducible refine BV.notN ?hp ?_); (case hp => exact rfl)))
local macro_rules | `(tactic| walk_at "bvg0") => `(tactic| first
  | ((with_reducible apply BV.var); exact rfl)
  | ((with_reducible apply BV.retO); exact rfl) | (with_reducible refine BV.ret ?_) | ((with_reducible apply BV.asgPop); exact rfl) | (with_reducible refine BV.asg ?_) | ((with_reducible apply BV.asgPopG); exact rfl) | (with_reducible refine BV.asgG ?_)
  | ((with_reducible apply BV.append); exact rfl) | ((with_reducible apply BV.extend); exact rfl) | ((with_reducible apply BV.augI); exact rfl) | ((with_reducible apply BV.truO); exact rfl) | (with_reducible refine BV.dropE ?_)
  | ((with_reducible refine BV.isiT2 ?h1 ?h2 ?_); (case h1 => decide +kernel); (case h2 => decide +kernel)) | ((with_reducible refine And.intro (show isPlainB _ = true from ?hz) ?_); (case hz => exact rfl)) | ((with_reducible refine BV.listVals ?hu ?_); (case hu => trivial)))
local macro_rules | `(tactic| walk_at "bvgu") => `(tactic| first
  | ((with_reducible apply SL.ixT); exact rfl) | (with_reducible refine SL.ixT SL.at0U ?_) | (with_reducible refine SL.ixT SL.at1U ?_)
  | ((with_reducible apply SL.fldAt); (case hs => assumption); (case kc => assumption); (case hf => decide); (case hu => exact rfl))
  | ((with_reducible apply SL.methAt); (case hs => assumption); (case hm => decide)))
local macro_rules | `(tactic| walk_at "bv1") => `(tactic| first | (with_reducible refine BVSt.mp ?_) | walk_at "bvg0" | walk_at "bvg1" | walk_at "bvg2")
local macro_rules | `(tactic| walk_at "bv") => `(tactic| repeat first | (with_reducible refine bvRun ?_) | (with_reducible refine BVSt.mp ?_) | walk_at "bvg0" | walk_at "bvg1" | walk_at "bvg2")
local macro_rules | `(tactic| walk_at "bu") => `(tactic| repeat first | (with_reducible refine bvRun ?_) | (with_reducible refine BVSt.mp ?_) | walk_at "bvgu" | walk_at "bvg0" | walk_at "bvg1" | walk_at "bvg2")
/-- a place's dicts are as long as they say -/
def PlW (C : Addr) (pl : PlD) (b : B) : Prop := ∃ nds ods, b = .obj C plFs [ncB pl.nc nds, .dct pl.own ods, .bl pl.im, .bl pl.hp] ∧ pl.own.length = ods.length ∧ ∀ ks, pl.nc = some ks → ks.length = nds.length
def WMay (C : Addr) (bs : List B) (R : B → Prop) : Prop := ∃ pl b w ret, bs = [.str w, .bl ret, b] ∧ PlW C pl b ∧ R (.bl (mayS pl w ret))
def WFormOf (bs : List B) (R : B → Prop) : Prop := ∃ k ps, bs = [.str k, .tup ps] ∧ pdsB ps = true ∧ R (formB (formF k ps))
def WLeaf (C : Addr) (bs : List B) (R : B → Prop) : Prop := ∃ pl b k x, bs = [.str k, x, b] ∧ PlW C pl b ∧ pdB x = true ∧ R (.bl (leafF pl k x))
def WStm (bs : List B) (R : B → Prop) : Prop := ∃ ps deep ret tests, bs = [.tup ps, spotB deep ret tests] ∧ R (optB (stmF ps deep ret))
def WForm (C : Addr) (bs : List B) (R : B → Prop) : Prop := ∃ pl b k ps deep ret tests, bs = [.str k, .tup ps, spotB deep ret tests, b] ∧ PlW C pl b ∧ pdsB ps = true ∧ R (optB (frmF pl k ps deep ret tests))
def WInner (C : Addr) (bs : List B) (R : B → Prop) : Prop := ∃ pl b p, bs = [.str p.k, p.b, spotB p.deep p.ret p.tests, b] ∧ PlW C pl b ∧ pdB p.b = true ∧ R (optB (innF pl p))
theorem sc_Place___init__ : FnScope ["self", "new_classes", "own_fields", "in_method", "has_parent"] ["self", "new_classes", "own_fields", "in_method", "has_parent"] (defScope (inClass (topS 27) 0)) := ⟨rfl, rfl, rfl, by decide +kernel, rfl, by decide +kernel, by decide +kernel⟩
theorem ok_Place (T : TxtP K mg) (pk : PlK K C) {f : Addr} {fd : FuncData} (F : Fun K "__init__" "Place.__init__" (inClass (topS 27) 0) f fd) : FnOk P w K mg base CX0 1 f fd ["self", "new_classes", "own_fields", "in_method", "has_parent"] (SpF C plFs) := by
  refine F.ok sc_Place___init__ (fun vs H Q E h => ?_) (fun cdv A outer s H vs Q E hr h => ?_)
  · obtain ⟨x, dx, ws, rfl, _, hl, _⟩ := h
    rw [List.length_cons, hl]
    rfl
  obtain ⟨x, dx, ws, rfl, hx, hl, q⟩ := h
  match ws, hl with
  | [a, b, c, d], _ =>
    refine ⟨_, (pss_cons (ps_fld (pv 0) (pv 1) rfl)
      (pss_cons (ps_fld (pv 0) (pv 2) rfl)
      (pss_cons (ps_fld (pv 0) (pv 3) rfl)
      (pss_one (ps_fld (pv 0) (pv 4) rfl))))), ?_⟩
    walk_at "rd"
    with_reducible refine sfldR ?_
    walk_at "rd"
    refine ⟨x, C, dx, [], rfl, hx, pk.cl, pk.n1, (by decide), ?_⟩
    walk_at "rd"
    with_reducible refine sfldR ?_
    walk_at "rd"
    refine ⟨x, C, dx, _, rfl, upd_same, pk.cl, pk.n2, (show (1 : Nat) < 1000 by decide), ?_⟩
    walk_at "rd"
    with_reducible refine sfldR ?_
    walk_at "rd"
    refine ⟨x, C, dx, _, rfl, upd_same, pk.cl, pk.n3, (show (2 : Nat) < 1000 by decide), ?_⟩
    walk_at "rd"
    with_reducible refine sfldR ?_
    walk_at "rd"
    refine ⟨x, C, dx, _, rfl, upd_same, pk.cl, pk.n4, (show (3 : Nat) < 1000 by decide), ?_⟩
    walk_at "rd"
    exact q _ (fun b hb => by rw [upd_ne hb, upd_ne hb, upd_ne hb, upd_ne hb]) upd_same
theorem sc__may_stand : FnScope ["word", "returns", "place"] ["word", "returns", "place"] (defScope (topS 34)) := ⟨rfl, rfl, rfl, by decide +kernel, rfl, by decide +kernel, by decide +kernel⟩
theorem ok_may (T : TxtP K mg) (pk : PlK K C) {f : Addr} {fd : FuncData} (F : Fun K "_may_stand" "_may_stand" (topS 34) f fd) : FnOk P w K mg base CX0 1 f fd ["word", "returns", "place"] (SpB G3.lo K (WMay C)) := by
  refine F.ok sc__may_stand (fun vs H Q E h => spLen (fun bs R hW => by obtain ⟨pl, b, w, ret, rfl, _⟩ := hW; rfl) h) (fun cdv A outer s H vs Q E hr h => ?_)
  refine ⟨_, (pss_cons (ps_if (pt_cmpR op_eq (pv 0) pe_str (nomark _)) (pss_one (ps_ret (pe_fld (pv 2) rfl))) pss_nil)
      (pss_cons (ps_if (pt_cmpR op_eq (pv 0) pe_str (nomark _)) (pss_one (ps_ret (pe_fld (pv 2) rfl))) pss_nil)
      (pss_one (ps_ret (pe_ifExp (pt_cmpR op_eq (pv 0) pe_str (nomark _)) (pv 1) pe_bl))))), ?_⟩
  refine body h _ fun bs R hW hl => ?_
  obtain ⟨pl, b, z, ret, rfl, ⟨nds, ods, rfl, l1, l2⟩, hq⟩ := hW
  change bwS G3.lo K _ [.sh (.str z), .sh (.bl ret), .sh (.obj C plFs [ncB pl.nc nds, .dct pl.own ods, .bl pl.im, .bl pl.hp])] _
  try dsimp only [cxOf, Cx.nox]
  unfold mayS at hq
  walk_at "bv"
  refine ite2 (fun h1 => ?_) (fun h1 => ?_)
  · rw [if_pos (of_decide_eq_true h1)] at hq
    walk_at "bv"
    refine fldO ?_
    walk_at "bv"
    exact ⟨_, _, _, _, rfl, pk.cl, pk.n3, rfl, hq⟩
  · rw [if_neg (of_decide_eq_false (eq_false_of_ne_true h1))] at hq
    walk_at "bv"
    refine ite2 (fun h2 => ?_) (fun h2 => ?_)
    · rw [if_pos (of_decide_eq_true h2)] at hq
      walk_at "bv"
      refine fldO ?_
      walk_at "bv"
      exact ⟨_, _, _, _, rfl, pk.cl, pk.n4, rfl, hq⟩
    · rw [if_neg (of_decide_eq_false (eq_false_of_ne_true h2))] at hq
      walk_at "bv"
      refine ite2 (fun h3 => ?_) (fun h3 => ?_)
      · rw [if_pos (of_decide_eq_true h3)] at hq
        walk_at "bv"
        exact hq
      · rw [if_neg (of_decide_eq_false (eq_false_of_ne_true h3))] at hq
        walk_at "bv"
        exact hq
theorem sc_form_of : FnScope ["kind", "part"] ["kind", "part"] (defScope (topS 33)) := ⟨rfl, rfl, rfl, by decide +kernel, rfl, by decide +kernel, by decide +kernel⟩
theorem ok_formOf (T : TxtP K mg) (t_S : FTS K w mg "SIMPLES" tabS) (t_C : FTS K w mg "CALLS" tabC) (t_T : FTS K w mg "TESTS" tabT) (t_St : FTS K w mg "STATEMENTS" tabSt) {f : Addr} {fd : FuncData} (F : Fun K "form_of" "form_of" (topS 33) f fd) : FnOk P w K mg base CX0 1 f fd ["kind", "part"] (SpB G3.lo K WFormOf) := by
  refine F.ok sc_form_of (fun vs H Q E h => spLen (fun bs R hW => by obtain ⟨k, ps, rfl, _⟩ := hW; rfl) h) (fun cdv A outer s H vs Q E hr h => ?_)
  obtain ⟨pS, eS, kS, lS⟩ := t_S.ex
  obtain ⟨pC, eC, kC, lC⟩ := t_C.ex
  obtain ⟨pT, eT, kT, lT⟩ := t_T.ex
  obtain ⟨pF, eF, kF, lF⟩ := t_St.ex
  refine ⟨_, (pss_cons (ps_if ((pw_or (pt_cmpR op_eq (pe_callB (r := SF.rLenQ K) call_lenQ (by rfl) T.b_len PySem.boot_len (pa_cons (pv 1) pa_nil)) pe_int (nomark _)) (pw_or1 (pt_not (pt_val (pe_callB call_isi (by rfl) T.b_isinstance (by decide +kernel) (pa_cons (pe_ix (r := rIxT K) ix_tup (pv 1) pe_int (fun _ _ => rfl)) (pa_cons (pe_bltn (v := .ty "str") (by rfl) T.b_str (by decide +kernel) rfl) pa_nil)))))))).pt (pss_one (ps_ret pe_non)) pss_nil)
      (pss_cons (ps_if (pt_cmpR op_eq (pv 0) pe_str (nomark _)) (pss_one (ps_ret (pe_kget (pe_gc (v := .ref pF) (by rfl) ⟨_, eF, rfl⟩) (pe_ix (r := rIxT K) ix_tup (pv 1) pe_int (fun _ _ => rfl)) ⟨rfl, rfl, rfl, rfl⟩))) pss_nil)
      (pss_cons (ps_if (pt_cmpR op_eq (pv 0) pe_str (nomark _)) (pss_one (ps_ret (pe_kget (pe_gc (v := .ref pT) (by rfl) ⟨_, eT, rfl⟩) (pe_ix (r := rIxT K) ix_tup (pv 1) pe_int (fun _ _ => rfl)) ⟨rfl, rfl, rfl, rfl⟩))) pss_nil)
      (pss_cons (ps_if ((pw_and (pt_cmpR op_eq (pv 0) pe_str (nomark _)) (pw_and1 (pt_cmpR (op_inKd rfl kC) (pe_ix (r := rIxT K) ix_tup (pv 1) pe_int (fun _ _ => rfl)) (pe_gc (v := .ref pC) (by rfl) ⟨_, eC, rfl⟩) (by rfl))))).pt (pss_one (ps_ret (pe_ix (r := rIxD K w) ix_kdict (pe_gc (v := .ref pC) (by rfl) ⟨_, eC, rfl⟩) (pe_ix (r := rIxT K) ix_tup (pv 1) pe_int (fun _ _ => rfl)) (fun _ _ => rfl)))) pss_nil)
      (pss_one (ps_ret (pe_kget (pe_gc (v := .ref pS) (by rfl) ⟨_, eS, rfl⟩) (pe_ix (r := rIxT K) ix_tup (pv 1) pe_int (fun _ _ => rfl)) ⟨rfl, rfl, rfl, rfl⟩))))))), ?_⟩
  refine body h _ fun bs R hW hl => ?_
  obtain ⟨k, ps, rfl, hp, hq⟩ := hW
  change bwS G3.lo K _ [.sh (.str k), .sh (.tup ps)] _
  try dsimp only [cxOf, Cx.nox]
  match ps, hp, hq with
  | [], hp, hq =>
    walk_at "bv"
    exact hq
  | .str z :: r, hp, hq =>
    have e0 : formF k (.str z :: r) = if k = "statement" then tabSt.lookup z else if k = "test" then tabT.lookup z else if k = "right" ∧ z ∈ tabC.map (·.1) then tabC.lookup z else tabS.lookup z := rfl
    rw [e0] at hq
    walk_at "bv"
    refine ite2 (fun h1 => ?_) (fun h1 => ?_)
    · rw [if_pos (of_decide_eq_true h1)] at hq
      walk_at "bv"
      refine kgetB kF lF ?_
      walk_at "bv"
      exact hq
    rw [if_neg (of_decide_eq_false (eq_false_of_ne_true h1))] at hq
    walk_at "bv"
    refine ite2 (fun h2 => ?_) (fun h2 => ?_)
    · rw [if_pos (of_decide_eq_true h2)] at hq
      walk_at "bv"
      refine kgetB kT lT ?_
      walk_at "bv"
      exact hq
    rw [if_neg (of_decide_eq_false (eq_false_of_ne_true h2))] at hq
    walk_at "bv"
    have fin : ¬ (k = "right" ∧ z ∈ tabC.map (·.1)) → bwE G3.lo K (tKGet K w (tC (V.ref pS)) (tOp (rIxT K) (tVar 1) (tC (V.int 0)))) [Cell.sh (B.str k), Cell.sh (B.tup (B.str z :: r))] R := fun hn => by
      rw [if_neg hn] at hq
      refine kgetB kS lS ?_
      walk_at "bv"
      exact hq
    refine ite2 (fun h3 => ?_) (fun h3 => ?_)
    · walk_at "bv"
      refine kin (LookS.keys lC) ?_
      walk_at "bv"
      refine ite2 (fun h4 => ?_) (fun h4 => ?_)
      · have h34 : k = "right" ∧ z ∈ tabC.map (·.1) := ⟨of_decide_eq_true h3, of_decide_eq_true h4⟩
        rw [if_pos h34] at hq
        cases e : tabC.lookup z with
        | none =>
          have := look_in (z := z) (tab := tabC)
          rw [e, decide_eq_true h34.2] at this
          cases this
        | some fs =>
          rw [e] at hq
          walk_at "bv"
          exact kitem kC lC e hq
      · walk_at "bv"
        exact fin fun z' => h4 (decide_eq_true z'.2)
    · walk_at "bv"
      exact fin fun z' => h3 (decide_eq_true z'.1)
  | .non :: r, hp, hq => (walk_at "bv"; exact hq)
  | .bl _ :: r, hp, hq => (walk_at "bv"; exact hq)
  | .int _ :: r, hp, hq => (walk_at "bv"; exact hq)
  | .tup _ :: r, hp, hq => (walk_at "bv"; exact hq)
  | .lst _ :: r, hp, hq => (walk_at "bv"; exact hq)
  | .dct _ _ :: r, hp, hq => (walk_at "bv"; exact hq)
  | .src :: r, hp, hq => simp [pdsB, pdB] at hp
  | .raw _ :: r, hp, hq => simp [pdsB, pdB] at hp
  | .xc _ _ _ _ :: r, hp, hq => simp [pdsB, pdB] at hp
  | .obj _ _ _ :: r, hp, hq => simp [pdsB, pdB] at hp
  | .dcT _ _ :: r, hp, hq => simp [pdsB, pdB] at hp
  | .mu _ :: r, hp, hq => simp [pdsB, pdB] at hp
theorem sc__is_leaf : FnScope ["kind", "part", "place"] ["kind", "part", "place"] (defScope (topS 30)) := ⟨rfl, rfl, rfl, by decide +kernel, rfl, by decide +kernel, by decide +kernel⟩
theorem ok_leaf (T : TxtP K mg) (pk : PlK K C) (c_is_names : Cal P w K mg base 2 "is_names" (SpB G3.lo K WIsNames) []) (c_is_name : Cal P w K mg base 1 "is_name" (SpB G3.lo K WIsName) []) {f : Addr} {fd : FuncData} (F : Fun K "_is_leaf" "_is_leaf" (topS 30) f fd) : FnOk P w K mg base CX0 3 f fd ["kind", "part", "place"] (SpB G3.lo K (WLeaf C)) := by
  refine F.ok sc__is_leaf (fun vs H Q E h => spLen (fun bs R hW => by obtain ⟨pl, b, k, x, rfl, _⟩ := hW; rfl) h) (fun cdv A outer s H vs Q E hr h => ?_)
  have hu := hu_of hr
  refine ⟨_, (pss_cons (ps_if (pt_cmpR op_eq (pv 0) pe_str (nomark _)) (pss_one (ps_ret (pe_c c_is_names hr (by decide) (by rfl) (pa_cons (pv 1) (pa_cons pe_int (pa_cons (pe_gc (by rfl) T.g_MOST_PARAMS) pa_nil)))))) pss_nil)
      (pss_cons (ps_if (pt_not (pt_val (pe_c c_is_name hr (by decide) (by rfl) (pa_cons (pv 1) pa_nil)))) (pss_one (ps_ret pe_bl)) pss_nil)
      (pss_cons (ps_if (pt_cmpR op_eq (pv 0) pe_str (nomark _)) (pss_one (ps_ret (pe_cmp (pc_din hu (pv 1) (pe_fld (pv 2) rfl))))) pss_nil)
      (pss_one (ps_ret (pe_or (pe_cmpR op_eq (pv 0) pe_str (nomark _)) (pe_or (pe_cmpR op_isN1 (pe_fld (pv 2) rfl) pe_non (nomark _)) (pe_one (pe_cmp (pc_din hu (pv 1) (pe_fld (pv 2) rfl))))))))))), ?_⟩
  refine body h _ fun bs R hW hl => ?_
  obtain ⟨pl, b, k, x, rfl, ⟨nds, ods, rfl, l1, l2⟩, hp, hq⟩ := hW
  change bwS G3.lo K _ [.sh (.str k), .sh (x), .sh (.obj C plFs [ncB pl.nc nds, .dct pl.own ods, .bl pl.im, .bl pl.hp])] _
  try dsimp only [cxOf, Cx.nox]
  unfold leafF at hq
  walk_at "bv"
  refine ite2 (fun h1 => ?_) (fun h1 => ?_)
  · rw [if_pos (of_decide_eq_true h1)] at hq
    obtain ⟨vMP, eMP, rMP⟩ := T.g_MOST_PARAMS
    walk_at "bv"
    exact ⟨x, 0, 3, rfl, hp, by decide, hq⟩
  rw [if_neg (of_decide_eq_false (eq_false_of_ne_true h1))] at hq
  walk_at "bv"
  refine ⟨x, rfl, pd_plain hp, pd_short hp, ?_⟩
  cases x with
  | str z =>
    have e0 : nameB (.str z) = nameS z := rfl
    dsimp only at hq
    rw [e0]
    walk_at "bv"
    refine ite2 (fun h2 => ?_) (fun h2 => ?_)
    · have h2' : nameS z = false := by simpa using h2
      rw [h2', Bool.false_and] at hq
      walk_at "bv"
      exact hq
    · have h2' : nameS z = true := by simpa using h2
      rw [h2', Bool.true_and] at hq
      walk_at "bv"
      refine ite2 (fun h3 => ?_) (fun h3 => ?_)
      · rw [if_pos (of_decide_eq_true h3)] at hq
        walk_at "bv"
        refine fldO ?_
        walk_at "bv"
        refine ⟨_, _, _, _, rfl, pk.cl, pk.n2, rfl, ?_⟩
        refine ⟨_, _, Sum.inr z, rfl, rfl, ?_⟩
        rw [get_isSome l1 (es := pl.own.map fun _ => .non) (by rw [List.length_map])]
        exact hq
      · rw [if_neg (of_decide_eq_false (eq_false_of_ne_true h3))] at hq
        walk_at "bv"
        refine ite2 (fun h4 => ?_) (fun h4 => ?_)
        · rw [h4, Bool.true_or] at hq
          exact hq
        · rw [eq_false_of_ne_true h4, Bool.false_or] at hq
          walk_at "bv"
          refine fldO ?_
          walk_at "bv"
          refine ⟨_, _, _, _, rfl, pk.cl, pk.n1, rfl, ?_⟩
          cases e : pl.nc with
          | none =>
            rw [e] at hq
            dsimp only [ncB]
            walk_at "bv"
            exact hq
          | some ks =>
            rw [e] at hq
            dsimp only [ncB] at hq ⊢
            walk_at "bv"
            refine fldO ?_
            walk_at "bv"
            refine ⟨_, _, _, _, rfl, pk.cl, pk.n1, rfl, ?_⟩
            refine ⟨_, _, Sum.inr z, rfl, rfl, ?_⟩
            rw [get_isSome (l2 ks e) (es := ks.map fun _ => .non) (by rw [List.length_map])]
            exact hq
  | _ =>
    walk_at "bv"
    exact hq
theorem sc__statements : FnScope ["block", "spot", "deep", "returns", "_", "statement"] ["block", "spot"] (defScope (topS 31)) := ⟨rfl, rfl, rfl, by decide +kernel, rfl, by decide +kernel, by decide +kernel⟩
theorem ok_stm (T : TxtP K mg) {f : Addr} {fd : FuncData} (F : Fun K "_statements" "_statements" (topS 31) f fd) : FnOk P w K mg base CX0 1 f fd ["block", "spot"] (SpB G3.lo K WStm) := by
  refine F.ok sc__statements (fun vs H Q E h => spLen (fun bs R hW => by obtain ⟨ps, d, r, t, rfl, _⟩ := hW; rfl) h) (fun cdv A outer s H vs Q E hr h => ?_)
  obtain ⟨vMB, eMB, rMB⟩ := T.g_MOST_BLOCKS
  obtain ⟨vMS, eMS, rMS⟩ := T.g_MOST_STATEMENTS
  refine ⟨_, (pss_cons (ps_asg (pv 1) (pg_tup rfl (pgs_cons (pg_name (i := 2) sc__statements.nd rfl (Or.inr rfl)) (pgs_cons (pg_name (i := 3) sc__statements.nd rfl (Or.inr rfl)) (pgs_cons (pg_name (i := 4) sc__statements.nd rfl (Or.inl rfl)) pgs_nil)))))
      (pss_cons (ps_if ((pw_or (pt_cmpR op_eq (pv 2) (pe_gc (by rfl) T.g_MOST_BLOCKS) (nomark _)) (pw_or1 (pt_cmpR op_gt (pe_callB (r := SF.rLenQ K) call_lenQ (by rfl) T.b_len PySem.boot_len (pa_cons (pv 0) pa_nil)) (pe_gc (by rfl) T.g_MOST_STATEMENTS) (nomark _))))).pt (pss_one (ps_ret pe_non)) pss_nil)
      (pss_one (ps_ret (pe_lc (own := [("statement", 5)]) (tt := tYes) rfl sc__statements.nd (pi_tup (pv 0)) (blkOk_by (N := ["block", "spot", "deep", "returns", "_", "statement"]) (sc := defScope (topS 31)) (by decide +kernel)) (fun _ _ _ _ _ => (pg_name (i := 5) sc__statements.nd rfl (Or.inl rfl))) (fun _ _ _ _ _ => pts_nil) (fun _ _ _ _ _ => (pe_tup (pa_cons pe_str (pa_cons (pv 5) (pa_cons (pe_tup (pa_cons (pe_op op_add (pv 2) pe_int) (pa_cons (pv 3) (pa_cons pe_int pa_nil)))) pa_nil)))))))))), ?_⟩
  refine body h _ fun bs R hW hl => ?_
  obtain ⟨ps, deep, ret, tests, rfl, hq⟩ := hW
  change bwS G3.lo K _ [.sh (.tup ps), .sh (spotB deep ret tests), .no, .no, .no, .no] _
  try dsimp only [cxOf, Cx.nox]
  unfold spotB
  unfold stmF at hq
  have lM := sizeLine_eq
  walk_at "bv"
  refine ite2 (fun h1 => ?_) (fun h1 => ?_)
  · have h1' : deep = 8 := by have := of_decide_eq_true h1; omega
    rw [if_pos (.inl h1')] at hq
    walk_at "bv"
    exact hq
  · have h1' : deep ≠ 8 := by have := of_decide_eq_false (eq_false_of_ne_true h1); omega
    walk_at "bv"
    refine ite2 (fun h2 => ?_) (fun h2 => ?_)
    · have h2' : 12 < ps.length := by have := of_decide_eq_true h2; omega
      rw [if_pos (.inr h2')] at hq
      walk_at "bv"
      exact hq
    · have h2' : ¬ 12 < ps.length := by have := of_decide_eq_false (eq_false_of_ne_true h2); omega
      rw [if_neg (fun z => z.elim h1' h2')] at hq
      walk_at "bv"
      refine ofN (lcMap (fun b => ptB ⟨"statement", b, deep + 1, ret, 0⟩) ?_)
      walk_at "bv"
      refine ⟨by omega, fun i d hd => ?_, ?_⟩
      · walk_at "bv"
        rfl
      · unfold optB at hq
        dsimp only at hq
        rw [List.map_map] at hq
        exact hq
theorem sc__form_parts : FnScope ["kind", "part", "spot", "place", "deep", "returns", "tests", "form", "inner", "thing"] ["kind", "part", "spot", "place"] (defScope (topS 32)) := ⟨rfl, rfl, rfl, by decide +kernel, rfl, by decide +kernel, by decide +kernel⟩
theorem ok_form (T : TxtP K mg) (pk : PlK K C) (c_form_of : Cal P w K mg base 1 "form_of" (SpB G3.lo K WFormOf) []) (c__may_stand : Cal P w K mg base 1 "_may_stand" (SpB G3.lo K (WMay C)) []) {f : Addr} {fd : FuncData} (F : Fun K "_form_parts" "_form_parts" (topS 32) f fd) : FnOk P w K mg base CX0 2 f fd ["kind", "part", "spot", "place"] (SpB G3.lo K (WForm C)) := by
  refine F.ok sc__form_parts (fun vs H Q E h => spLen (fun bs R hW => by obtain ⟨pl, b, k, ps, d, r, t, rfl, _⟩ := hW; rfl) h) (fun cdv A outer s H vs Q E hr h => ?_)
  obtain ⟨vMT, eMT, rMT⟩ := T.g_MOST_TESTS
  refine ⟨_, (pss_cons (ps_asg (pv 2) (pg_tup rfl (pgs_cons (pg_name (i := 4) sc__form_parts.nd rfl (Or.inr rfl)) (pgs_cons (pg_name (i := 5) sc__form_parts.nd rfl (Or.inr rfl)) (pgs_cons (pg_name (i := 6) sc__form_parts.nd rfl (Or.inr rfl)) pgs_nil)))))
      (pss_cons (ps_if (pt_cmpR op_eq (pv 0) pe_str (nomark _)) (pss_one (ps_aug (i := 6) sc__form_parts.nd rfl (Or.inr rfl) pe_int ip_add)) pss_nil)
      (pss_cons (ps_set (i := 7) sc__form_parts.nd rfl (Or.inl rfl) (pe_c c_form_of hr (by decide) (by rfl) (pa_cons (pv 0) (pa_cons (pv 1) pa_nil))))
      (pss_cons (ps_if ((pw_or (pt_cmpR op_isN1 (pv 7) pe_non (nomark _)) (pw_or (pt_cmpR op_ne (pe_callB (r := SF.rLenQ K) call_lenQ (by rfl) T.b_len PySem.boot_len (pa_cons (pv 1) pa_nil)) (pe_op op_add pe_int (pe_callB (r := SF.rLenQ K) call_lenQ (by rfl) T.b_len PySem.boot_len (pa_cons (pv 7) pa_nil))) (nomark _)) (pw_or1 (pt_cmpR op_gt (pv 6) (pe_gc (by rfl) T.g_MOST_TESTS) (nomark _)))))).pt (pss_one (ps_ret pe_non)) pss_nil)
      (pss_cons (ps_if (pt_not (pt_val (pe_c c__may_stand hr (by decide) (by rfl) (pa_cons (pe_ix (r := rIxT K) ix_tup (pv 1) pe_int (fun _ _ => rfl)) (pa_cons (pv 5) (pa_cons (pv 3) pa_nil)))))) (pss_one (ps_ret pe_non)) pss_nil)
      (pss_one (ps_ret (pe_lc (own := [("inner", 8), ("thing", 9)]) (g := gTup K 2 (gCons (gName 8) (gCons (gName 9) gNil))) (tt := tYes) rfl sc__form_parts.nd (RZ.pi_zipA (by rfl) T.b_zip (pa_cons (pv 7) (pa_cons (pe_slice (r := rSlA K) sl_tupA (pv 1) (po_some pe_int) po_none) pa_nil))) (blkOk_by (N := ["kind", "part", "spot", "place", "deep", "returns", "tests", "form", "inner", "thing"]) (sc := defScope (topS 32)) (by decide +kernel)) (fun _ _ _ _ _ => (pg_tup rfl (pgs_cons (pg_name (i := 8) sc__form_parts.nd rfl (Or.inl rfl)) (pgs_cons (pg_name (i := 9) sc__form_parts.nd rfl (Or.inl rfl)) pgs_nil)))) (fun _ _ _ _ _ => pts_nil) (fun _ _ _ _ _ => (pe_tup (pa_cons (pv 8) (pa_cons (pv 9) (pa_cons (pe_tup (pa_cons (pv 4) (pa_cons (pv 5) (pa_cons (pv 6) pa_nil)))) pa_nil))))))))))))), ?_⟩
  refine body h _ fun bs R hW hl => ?_
  obtain ⟨pl, b, k, ps, deep, ret, tests, rfl, hpl, hp, hq⟩ := hW
  change bwS G3.lo K _ [.sh (.str k), .sh (.tup ps), .sh (spotB deep ret tests), .sh (b), .no, .no, .no, .no, .no, .no] _
  try dsimp only [cxOf, Cx.nox]
  unfold spotB
  unfold frmF at hq
  have lM := sizeLine_eq
  refine BV.seq (BV.asgG (BV.var rfl (BV.gtup rfl (BV.gcons (BV.gname (BV.gcons (BV.gname (BV.gcons (BV.gname (BV.gnil ?_))))))))))
  refine BV.seq (BV.join (fun g => g = [.sh (.str k), .sh (.tup ps), .sh (.tup [.int (deep : Nat), .bl ret, .int (tests : Nat)]), .sh (b), .sh (.int (deep : Nat)), .sh (.bl ret), .sh (.int (tstF k tests : Nat)), .no, .no, .no]) ?_ ?_)
  · walk_at "bv"
    refine ite2 (fun h1 => ?_) (fun h1 => ?_)
    · rw [tstF, if_pos (of_decide_eq_true h1)]
      walk_at "bv"
      rfl
    · rw [tstF, if_neg (of_decide_eq_false (eq_false_of_ne_true h1))]
      walk_at "bv"
      rfl
  rintro g rfl
  generalize tstF k tests = tt at hq ⊢
  walk_at "bv"
  refine ⟨k, ps, rfl, hp, ?_⟩
  cases e : formF k ps with
  | none =>
    rw [e] at hq
    dsimp only [formB, List.set]
    walk_at "bv"
    exact hq
  | some fm =>
    rw [e] at hq
    dsimp only at hq
    dsimp only [formB, List.set]
    obtain ⟨z, r, rfl⟩ : ∃ z r, ps = .str z :: r := by
      unfold formF at e
      split at e
      · exact ⟨_, _, rfl⟩
      · cases e
    walk_at "bv"
    have le : (1 + ((fm.map B.str).length : Int)) = ((1 + fm.length : Nat) : Int) := by rw [List.length_map]; omega
    rw [le]
    refine ite2 (fun h2 => ?_) (fun h2 => ?_)
    · have h2' : ¬ (B.str z :: r).length = 1 + fm.length := by
        intro z'
        rw [z'] at h2
        simp at h2
      rw [if_neg (fun z => h2' z.1)] at hq
      walk_at "bv"
      exact hq
    · have h2' : (B.str z :: r).length = 1 + fm.length := by
        have : ¬ ¬ ((B.str z :: r).length : Int) = ((1 + fm.length : Nat) : Int) := fun z' => h2 (by rw [decide_eq_false z']; rfl)
        omega
      walk_at "bv"
      refine ite2 (fun h3 => ?_) (fun h3 => ?_)
      · have h3' : ¬ tt ≤ 3 := by have := of_decide_eq_true h3; omega
        rw [if_neg (fun z => h3' z.2.1)] at hq
        walk_at "bv"
        exact hq
      · have h3' : tt ≤ 3 := by have := of_decide_eq_false (eq_false_of_ne_true h3); omega
        walk_at "bv"
        refine ⟨pl, b, z, ret, rfl, hpl, ?_⟩
        walk_at "bv"
        have ew : wordOf (.str z :: r) = z := rfl
        rw [ew] at hq
        refine ite2 (fun h4 => ?_) (fun h4 => ?_)
        · have h4' : mayS pl z ret = false := by simpa using h4
          rw [if_neg (fun z => by rw [h4'] at z; cases z.2.2)] at hq
          walk_at "bv"
          exact hq
        · have h4' : mayS pl z ret = true := by simpa using h4
          rw [if_pos ⟨h2', h3', h4'⟩] at hq
          walk_at "bv"
          refine ofN (lcMap (fun x => match x with
            | .tup [.str a, y] => ptB ⟨a, y, deep, ret, tt⟩
            | _ => .non) ?_)
          refine BV.wzip ?_
          walk_at "bv"
          have e2 : cutB (.str z :: r) (some 1) none = r := cut1
          rw [e2]
          rw [List.length_cons] at h2'
          refine ⟨Nat.le_trans pairsLen (by rw [List.length_map]; have := form_len e; omega), fun i d hd => ?_, ?_⟩
          · obtain ⟨x, y, hx, hy, rfl⟩ := pairsAt hd
            rw [List.getElem?_map] at hx
            cases e3 : fm[i]? with
            | none => rw [e3] at hx; cases hx
            | some kk =>
              rw [e3] at hx
              obtain rfl := (Option.some.inj hx).symm
              walk_at "bv"
              rfl
          · unfold optB at hq
            dsimp only at hq
            rw [List.tail_cons, List.map_map] at hq
            unfold pairs
            rw [List.map_map, List.zip_map_left, List.map_map]
            exact hq
theorem sc__inner_parts : FnScope ["kind", "part", "spot", "place", "thing"] ["kind", "part", "spot", "place"] (defScope (topS 29)) := ⟨rfl, rfl, rfl, by decide +kernel, rfl, by decide +kernel, by decide +kernel⟩
theorem ok_inner (T : TxtP K mg) (pk : PlK K C) (c__is_leaf : Cal P w K mg base 3 "_is_leaf" (SpB G3.lo K (WLeaf C)) []) (c__statements : Cal P w K mg base 1 "_statements" (SpB G3.lo K WStm) []) (c__form_parts : Cal P w K mg base 2 "_form_parts" (SpB G3.lo K (WForm C)) []) {f : Addr} {fd : FuncData} (F : Fun K "_inner_parts" "_inner_parts" (topS 29) f fd) : FnOk P w K mg base CX0 4 f fd ["kind", "part", "spot", "place"] (SpB G3.lo K (WInner C)) := by
  refine F.ok sc__inner_parts (fun vs H Q E h => spLen (fun bs R hW => by obtain ⟨pl, b, p, rfl, _⟩ := hW; rfl) h) (fun cdv A outer s H vs Q E hr h => ?_)
  refine ⟨_, (pss_cons (ps_if (pt_cmpR (r := rIn K false) op_in_seq (pv 0) (pe_tup (pa_cons pe_str (pa_cons pe_str (pa_cons pe_str (pa_cons pe_str pa_nil))))) (by rfl)) (pss_one (ps_ret (pe_ifExp (pt_val (pe_c c__is_leaf hr (by decide) (by rfl) (pa_cons (pv 0) (pa_cons (pv 1) (pa_cons (pv 3) pa_nil))))) (pe_lst pa_nil) pe_non))) pss_nil)
      (pss_cons (ps_if (pt_not (pt_val (pe_callB call_isi (by rfl) T.b_isinstance (by decide +kernel) (pa_cons (pv 1) (pa_cons (pe_bltn (v := .ty "tuple") (by rfl) T.b_tuple (by decide +kernel) rfl) pa_nil))))) (pss_one (ps_ret pe_non)) pss_nil)
      (pss_cons (ps_if (pt_cmpR op_eq (pv 0) pe_str (nomark _)) (pss_one (ps_ret (pe_c c__statements hr (by decide) (by rfl) (pa_cons (pv 1) (pa_cons (pv 2) pa_nil))))) pss_nil)
      (pss_cons (ps_if (pt_cmpR op_eq (pv 0) pe_str (nomark _)) (pss_one (ps_ret (pe_c c__statements hr (by decide) (by rfl) (pa_cons (pv 1) (pa_cons (pe_tup (pa_cons (pe_ix (r := rIxT K) ix_tup (pv 2) pe_int (fun _ _ => rfl)) (pa_cons pe_bl (pa_cons pe_int pa_nil)))) pa_nil))))) pss_nil)
      (pss_cons (ps_if (pt_cmpR op_eq (pv 0) pe_str (nomark _)) (pss_one (ps_ret (pe_ifExp (pt_cmpR op_gt (pe_callB (r := SF.rLenQ K) call_lenQ (by rfl) T.b_len PySem.boot_len (pa_cons (pv 1) pa_nil)) (pe_gc (by rfl) T.g_MOST_THINGS) (nomark _)) pe_non (pe_lc (own := [("thing", 4)]) (tt := tYes) rfl sc__inner_parts.nd (pi_tup (pv 1)) (blkOk_by (N := ["kind", "part", "spot", "place", "thing"]) (sc := defScope (topS 29)) (by decide +kernel)) (fun _ _ _ _ _ => (pg_name (i := 4) sc__inner_parts.nd rfl (Or.inl rfl))) (fun _ _ _ _ _ => pts_nil) (fun _ _ _ _ _ => (pe_tup (pa_cons pe_str (pa_cons (pv 4) (pa_cons (pv 2) pa_nil))))))))) pss_nil)
      (pss_one (ps_ret (pe_c c__form_parts hr (by decide) (by rfl) (pa_cons (pv 0) (pa_cons (pv 1) (pa_cons (pv 2) (pa_cons (pv 3) pa_nil)))))))))))), ?_⟩
  refine body h _ fun bs R hW hl => ?_
  obtain ⟨pl, b, ⟨k, x, deep, ret, tests⟩, rfl, hpl, hp, hq⟩ := hW
  change bwS G3.lo K _ [.sh (.str k), .sh (x), .sh (spotB deep ret tests), .sh (b), .no] _
  try dsimp only [cxOf, Cx.nox]
  dsimp only at hp
  unfold innF at hq
  dsimp only at hq
  have lM := sizeLine_eq
  walk_at "bv"
  refine inTs (ss := ["name", "field", "class", "params"]) ?_
  walk_at "bv"
  have em : (k ∈ (["name", "field", "class", "params"] : List Str)) ↔ (k = "name" ∨ k = "field" ∨ k = "class" ∨ k = "params") := by simp
  refine ite2 (fun h1 => ?_) (fun h1 => ?_)
  · rw [if_pos (em.mp (of_decide_eq_true h1))] at hq
    walk_at "bv"
    refine ⟨pl, b, k, x, rfl, hpl, hp, ?_⟩
    walk_at "bv"
    refine ite2 (fun h2 => ?_) (fun h2 => ?_)
    · rw [if_pos h2] at hq
      walk_at "bv"
      exact hq
    · rw [if_neg h2] at hq
      walk_at "bv"
      exact hq
  rw [if_neg fun z => h1 (decide_eq_true (em.mpr z))] at hq
  have hpl2 := pd_plain hp
  cases x with
  | src => cases hp
  | raw _ => cases hp
  | xc _ _ _ _ => cases hp
  | obj _ _ _ => cases hp
  | dcT _ _ => cases hp
  | mu _ => cases hp
  | tup ps =>
    dsimp only at hq
    have hp' : pdsB ps = true := hp
    walk_at "bv"
    refine ite2 (fun h2 => ?_) (fun h2 => ?_)
    · rw [if_pos (of_decide_eq_true h2)] at hq
      walk_at "bv"
      exact ⟨ps, deep, ret, tests, rfl, hq⟩
    rw [if_neg (of_decide_eq_false (eq_false_of_ne_true h2))] at hq
    walk_at "bv"
    refine ite2 (fun h3 => ?_) (fun h3 => ?_)
    · rw [if_pos (of_decide_eq_true h3)] at hq
      unfold spotB
      walk_at "bv"
      exact ⟨ps, deep, true, 0, rfl, hq⟩
    rw [if_neg (of_decide_eq_false (eq_false_of_ne_true h3))] at hq
    walk_at "bv"
    refine ite2 (fun h4 => ?_) (fun h4 => ?_)
    · rw [if_pos (of_decide_eq_true h4)] at hq
      walk_at "bv"
      refine ite2 (fun h5 => ?_) (fun h5 => ?_)
      · have h5' : 3 < ps.length := by have := of_decide_eq_true h5; omega
        rw [if_pos h5'] at hq
        walk_at "bv"
        exact hq
      · have h5' : ¬ 3 < ps.length := by have := of_decide_eq_false (eq_false_of_ne_true h5); omega
        rw [if_neg h5'] at hq
        walk_at "bv"
        refine ofN (lcMap (fun b => ptB ⟨"simple", b, deep, ret, tests⟩) ?_)
        walk_at "bv"
        refine ⟨by omega, fun i d hd => ?_, ?_⟩
        · walk_at "bv"
          rfl
        · unfold optB at hq
          dsimp only at hq
          rw [List.map_map] at hq
          exact hq
    · rw [if_neg (of_decide_eq_false (eq_false_of_ne_true h4))] at hq
      walk_at "bv"
      exact ⟨pl, b, k, ps, deep, ret, tests, rfl, hpl, hp', hq⟩
  | _ =>
    walk_at "bv"
    exact hq
end
end SF
set_option Elab.async false
set_option linter.all false
set_option maxRecDepth 100000
set_option maxHeartbeats 4000000
/-! is_block -/
namespace SF
open PySem PySem.Spec PyProof.Rows L2 G0 BV
open C8 (Cal Mak Met pe_c pe_mk pe_mt pe_mt0 pe_gc)
mutual
/-- how many parts it has -/
def szB : B → Nat
  | .tup ds => 1 + szsB ds
  | .lst ds => 1 + szsB ds
  | .dct _ ds => 1 + szsB ds
  | _ => 1
def szsB : List B → Nat
  | [] => 0
  | d :: ds => szB d + szsB ds
end
theorem sz_pos (b : B) : 1 ≤ szB b := by cases b <;> simp [szB]
theorem szs_app : ∀ {xs ys : List B}, szsB (xs ++ ys) = szsB xs + szsB ys
  | [], ys => by simp [szsB]
  | x :: xs, ys => by
    rw [List.cons_append, szsB, szsB, szs_app]
    omega
def szP : List Pt → Nat
  | [] => 0
  | p :: ps => szB p.b + szP ps
theorem szP_app : ∀ {xs ys : List Pt}, szP (xs ++ ys) = szP xs + szP ys
  | [], ys => by simp [szP]
  | x :: xs, ys => by
    rw [List.cons_append, szP, szP, szP_app]
    omega
theorem szP_len : ∀ {xs : List Pt}, xs.length ≤ szP xs
  | [] => Nat.zero_le _
  | x :: xs => by
    have := szP_len (xs := xs)
    have := sz_pos x.b
    rw [szP, List.length_cons]
    omega
theorem szP_mem {p : Pt} : ∀ {xs : List Pt}, p ∈ xs → szB p.b ≤ szP xs
  | [], h => by cases h
  | x :: xs, h => by
    rw [szP]
    rcases List.mem_cons.mp h with e | h
    · rw [e]; omega
    · have := szP_mem h; omega
theorem szP_map {f : B → Pt} (hf : ∀ b, (f b).b = b) : ∀ {xs : List B}, szP (xs.map f) = szsB xs
  | [] => by simp [szP, szsB]
  | x :: xs => by rw [List.map_cons, szP, szsB, hf, szP_map hf]
theorem szP_zip {f : Str × B → Pt} (hf : ∀ q, (f q).b = q.2) : ∀ {ks : List Str} {xs : List B}, szP ((ks.zip xs).map f) ≤ szsB xs
  | [], xs => by simp [szP]
  | k :: ks, [] => by simp [szP]
  | k :: ks, x :: xs => by
    have := szP_zip hf (ks := ks) (xs := xs)
    rw [List.zip_cons_cons, List.map_cons, szP, szsB, hf]
    show szB x + _ ≤ _
    omega
theorem inn_lt {pl : PlD} {p : Pt} {l : List Pt} (h : innF pl p = some l) : szP l < szB p.b := by
  obtain ⟨k, x, deep, ret, tests⟩ := p
  unfold innF at h
  dsimp only at h ⊢
  have h1 := sz_pos x
  split at h
  · split at h
    · cases h
      rw [szP]
      omega
    · cases h
  · split at h
    · rename_i ps
      have e : szB (.tup ps) = 1 + szsB ps := by rw [szB]
      rw [e]
      have stm : ∀ {d r l}, stmF ps d r = some l → szP l < 1 + szsB ps := fun {d r l} h => by
        unfold stmF at h
        split at h
        · cases h
        · cases h
          rw [szP_map fun _ => rfl]
          omega
      split at h
      · exact stm h
      · split at h
        · exact stm h
        · split at h
          · split at h
            · cases h
            · cases h
              rw [szP_map fun _ => rfl]
              omega
          · unfold frmF at h
            split at h
            · cases h
            · split at h
              · cases h
                refine Nat.lt_of_le_of_lt (szP_zip fun _ => rfl) ?_
                cases ps with
                | nil => simp [szsB]
                | cons a r =>
                  rw [List.tail_cons, szsB]
                  have := sz_pos a
                  omega
              · cases h
    · cases h
/-- it may stand there, with all that is in it -/
def good (pl : PlD) (p : Pt) : Bool := match h : innF pl p with
  | none => false
  | some l => l.attach.all fun q => good pl q.1
termination_by szB p.b
decreasing_by exact Nat.lt_of_le_of_lt (szP_mem q.2) (inn_lt h)
theorem good_eq (pl : PlD) (p : Pt) : good pl p = match innF pl p with
    | none => false
    | some l => l.all (good pl) := by
  rw [good]
  split
  · rename_i h
    rw [h]
  · rename_i l h
    rw [h]
    dsimp only
    have := List.attach_map_subtype_val l
    conv => rhs; rw [← this, List.all_map]
    rfl
theorem inn_pd {pl : PlD} {p : Pt} {l : List Pt} (hp : pdB p.b = true) (h : innF pl p = some l) : ∀ q ∈ l, pdB q.b = true := by
  obtain ⟨k, x, deep, ret, tests⟩ := p
  unfold innF at h
  dsimp only at h hp
  split at h
  · split at h
    · cases h
      intro q hq
      cases hq
    · cases h
  · split at h
    · rename_i ps
      have hp' : ps.all pdB = true := by rw [← pds_all]; exact hp
      have mp : ∀ {f : B → Pt}, (∀ b, (f b).b = b) → ∀ q ∈ ps.map f, pdB q.b = true := fun {f} hf q hq => by
        obtain ⟨b, hb, rfl⟩ := List.mem_map.mp hq
        rw [hf]
        exact List.all_eq_true.mp hp' b hb
      have stm : ∀ {d r l}, stmF ps d r = some l → ∀ q ∈ l, pdB q.b = true := fun {d r l} h => by
        unfold stmF at h
        split at h
        · cases h
        · cases h
          exact mp fun _ => rfl
      split at h
      · exact stm h
      · split at h
        · exact stm h
        · split at h
          · split at h
            · cases h
            · cases h
              exact mp fun _ => rfl
          · unfold frmF at h
            split at h
            · cases h
            · split at h
              · cases h
                intro q hq
                obtain ⟨z, hz, rfl⟩ := List.mem_map.mp hq
                have := (List.of_mem_zip hz).2
                exact List.all_eq_true.mp hp' _ (List.mem_of_mem_tail this)
              · cases h
    · cases h
def WBlock (C : Addr) (bs : List B) (R : B → Prop) : Prop := ∃ pl b x, bs = [x, b] ∧ PlW C pl b ∧ pdB x = true ∧ szB x ≤ 100000 ∧ R (.bl (good pl ⟨"block", x, 0, pl.im, 0⟩))
section
variable {P : Program} {w : World} {K : PySem.W.Frag} {mg : Str → Option Value} {base : Heap} {C : Addr}
set_option synthInstance.maxSize 100000
set_option synthInstance.maxHeartbeats 0
local macro_rules | `(tactic| walk_at "bvg2") => `(tactic| first
  | ((with_reducible refine And.intro (show List.length _ ≤ sizeLine from ?hz) ?_); (case hz => exact Nat.le_of_ble_eq_true rfl)) | ((with_reducible refine And.intro (show List.length _ < sizeLine from ?hz) ?_); (case hz => exact Nat.le_of_ble_eq_true rfl))
  | ((with_reducible refine RD.ifDT ?hd ?_); (case hd => first | decide +kernel | exact rfl)) | ((with_reducible refine RD.ifDF ?hd ?_); (case hd => first | decide +kernel | exact rfl))
  | ((with_reducible refine BV.catT ?hz ?_); (case hz => exact Nat.le_of_ble_eq_true rfl)) | ((with_reducible refine BV.catL ?hz ?_); (case hz => exact Nat.le_of_ble_eq_true rfl))
  | (with_reducible refine BV.ofN (BV.dNew ?_))
  | ((with_reducible apply BV.gtup); exact rfl)
  | ((with_reducible refine BV.vname ?hh ?_); (case hh => decide)) | ((with_reducible apply BV.vtup); exact rfl))
local macro_rules | `(tactic| walk_at "bvg1") => `(tactic| first
  | (with_reducible refine BV.strJoin ?_)
  | (with_reducible first | refine BV.i0 ?_ | refine BV.i0b ?_)
  | ((with_reducible apply BV.ixT); exact rfl) | (with_reducible refine BV.ixT BV.at0' ?_) | ((with_reducible apply BV.ixL); exact rfl)
  | ((with_reducible apply BV.lenO); exact rfl)
  | ((with_reducible refine BV.isi ?hh ?hp ?_); (case hh => decide +kernel); (case hp => exact rfl)) | ((with_reducible refine BV.isN ?hp ?_); (case hp => exact rfl)) | ((with_reducible refine BV.notN ?hp ?_); (case hp => exact rfl)))
local macro_rules | `(tactic| walk_at "bvg0") => `(tactic| first
  | ((with_reducible apply BV.var); exact rfl)
  | ((with_reducible apply BV.retO); exact rfl) | (with_reducible refine BV.ret ?_) | ((with_reducible apply BV.asgPop); exact rfl) | (with_reducible refine BV.asg ?_) | ((with_reducible apply BV.asgPopG); exact rfl) | (with_reducible refine BV.asgG ?_)
  | ((with_reducible apply BV.append); exact rfl) | ((with_reducible apply BV.extend); exact rfl) | ((with_reducible apply BV.augI); exact rfl) | ((with_reducible apply BV.truO); exact rfl) | (with_reducible refine BV.dropE ?_)
  | ((with_reducible refine BV.isiT2 ?h1 ?h2 ?_); (case h1 => decide +kernel); (case h2 => decide +kernel)) | ((with_reducible refine And.intro (show isPlainB _ = true from ?hz) ?_); (case hz => exact rfl)) | ((with_reducible refine BV.listVals ?hu ?_); (case hu => trivial)))
local macro_rules | `(tactic| walk_at "bvgu") => `(tactic| first
  | ((with_reducible apply SL.ixT); exact rfl) | (with_reducible refine SL.ixT SL.at0U ?_) | (with_reducible refine SL.ixT SL.at1U ?_)
  | ((with_reducible apply SL.fldAt); (case hs => assumption); (case kc => assumption); (case hf => decide); (case hu => exact rfl))
  | ((with_reducible apply SL.methAt); (case hs => assumption); (case hm => decide)))
local macro_rules | `(tactic| walk_at "bv1") => `(tactic| first | (with_reducible refine BVSt.mp ?_) | walk_at "bvg0" | walk_at "bvg1" | walk_at "bvg2")
local macro_rules | `(tactic| walk_at "bv") => `(tactic| repeat first | (with_reducible refine bvRun ?_) | (with_reducible refine BVSt.mp ?_) | walk_at "bvg0" | walk_at "bvg1" | walk_at "bvg2")
local macro_rules | `(tactic| walk_at "bu") => `(tactic| repeat first | (with_reducible refine bvRun ?_) | (with_reducible refine BVSt.mp ?_) | walk_at "bvgu" | walk_at "bvg0" | walk_at "bvg1" | walk_at "bvg2")
theorem sc_is_block : FnScope ["thing", "place", "left", "kind", "part", "spot", "inner"] ["thing", "place"] (defScope (topS 28)) := ⟨rfl, rfl, rfl, by decide +kernel, rfl, by decide +kernel, by decide +kernel⟩
theorem ok_block (T : TxtP K mg) (pk : PlK K C) (c__inner_parts : Cal P w K mg base 4 "_inner_parts" (SpB G3.lo K (WInner C)) []) {f : Addr} {fd : FuncData} (F : Fun K "is_block" "is_block" (topS 28) f fd) : FnOk P w K mg base CX0 5 f fd ["thing", "place"] (SpB G3.lo K (WBlock C)) := by
  refine F.ok sc_is_block (fun vs H Q E h => spLen (fun bs R hW => by obtain ⟨pl, b, x, rfl, _⟩ := hW; rfl) h) (fun cdv A outer s H vs Q E hr h => ?_)
  refine ⟨_, (pss_cons (ps_set (i := 2) sc_is_block.nd rfl (Or.inl rfl) (pe_lst (pa_cons (pe_tup (pa_cons pe_str (pa_cons (pv 0) (pa_cons (pe_tup (pa_cons pe_int (pa_cons (pe_fld (pv 1) rfl) (pa_cons pe_int pa_nil)))) pa_nil)))) pa_nil)))
      (pss_cons (ps_while PassesOwn.never (pt_truth (pv 2) (fun _ => rfl)) (pss_cons (ps_asg (pe_bm0 PySem.F.plainAttrs_list PySem.F.slot_list_pop PySem.F.type_list_pop mt_pop (pv 2)) (pg_tup rfl (pgs_cons (pg_name (i := 3) sc_is_block.nd rfl (Or.inl rfl)) (pgs_cons (pg_name (i := 4) sc_is_block.nd rfl (Or.inl rfl)) (pgs_cons (pg_name (i := 5) sc_is_block.nd rfl (Or.inl rfl)) pgs_nil)))))
      (pss_cons (ps_set (i := 6) sc_is_block.nd rfl (Or.inl rfl) (pe_c c__inner_parts hr (by decide) (by rfl) (pa_cons (pv 3) (pa_cons (pv 4) (pa_cons (pv 5) (pa_cons (pv 1) pa_nil))))))
      (pss_cons (ps_if (pt_cmpR op_isN1 (pv 6) pe_non (nomark _)) (pss_one (ps_ret pe_bl)) pss_nil)
      (pss_one (ps_expr (pe_bm PySem.F.plainAttrs_list PySem.F.slot_list_extend PySem.F.type_list_extend mt_extend (pv 2) (pa_cons (pv 6) pa_nil))))))))
      (pss_one (ps_ret pe_bl)))), ?_⟩
  refine body h _ fun bs R hW hl => ?_
  obtain ⟨pl, b, x, rfl, hpl, hp, hz, hq⟩ := hW
  obtain ⟨nds, ods, hb, l1, l2⟩ := id hpl
  change bwS G3.lo K _ [.sh (x), .sh (b), .no, .no, .no, .no, .no] _
  try dsimp only [cxOf, Cx.nox]
  have lM := sizeLine_eq
  refine BV.seq (BV.asgN (BV.lstN ?_))
  walk_at "bv"
  refine fldO ?_
  walk_at "bv"
  refine ⟨_, _, _, _, hb, pk.cl, pk.n3, rfl, ?_⟩
  walk_at "bv"
  refine BV.while_ (fun m Γ' => ∃ (l : List Pt) (c1 c2 c3 c4 : Cell), Γ' = [.sh x, .sh b, .ow (.lst (l.map ptB)), c1, c2, c3, c4] ∧ l.all (good pl) = good pl ⟨"block", x, 0, pl.im, 0⟩ ∧ (∀ q ∈ l, pdB q.b = true) ∧ szP l ≤ szB x ∧ m = szP l) (szP [⟨"block", x, 0, pl.im, 0⟩]) ⟨[⟨"block", x, 0, pl.im, 0⟩], _, _, _, _, rfl, by simp, by simp [hp], by simp [szP], rfl⟩ fun m Γ' hI => ?_
  obtain ⟨l, c1, c2, c3, c4, rfl, hg, hd, hs, rfl⟩ := hI
  walk_at "bv"
  rcases List.eq_nil_or_concat l with rfl | ⟨l', q, rfl⟩
  · walk_at "bv"
    rw [← hg] at hq
    exact hq
  · rw [List.concat_eq_append] at hg hd hs ⊢
    rw [show (l' ++ [q]).map ptB = l'.map ptB ++ [ptB q] by rw [List.map_append]; rfl]
    have hne : (l'.map ptB ++ [ptB q]).isEmpty = false := by cases l' <;> rfl
    rw [szP_app] at hs
    have hz1 : szP [q] = szB q.b := by simp [szP]
    rw [hz1] at hs
    rw [show szP (l' ++ [q]) = szP l' + szB q.b by rw [szP_app, hz1]]
    rw [hne]
    unfold ptB spotB
    walk_at "bv"
    have hl2 := szP_len (xs := l')
    refine ⟨pl, b, q, rfl, hpl, hd q (by simp), ?_⟩
    have hg' : (l'.all (good pl) && good pl q) = good pl ⟨"block", x, 0, pl.im, 0⟩ := by
      rw [← hg, List.all_append]
      simp
    have ge := good_eq pl q
    cases e : innF pl q with
    | none =>
      rw [e] at ge
      rw [ge, Bool.and_false] at hg'
      dsimp only [optB, List.set]
      walk_at "bv"
      rw [← hg'] at hq
      exact hq
    | some es =>
      rw [e] at ge
      dsimp only at ge
      dsimp only [optB, List.set]
      have he := inn_lt e
      have hl3 := szP_len (xs := es)
      walk_at "bv"
      refine ⟨by rw [List.length_map, List.length_map]; omega, _, ?_, l' ++ es, _, _, _, _, by rw [List.map_append]; rfl, ?_, ?_, ?_, rfl⟩
      · rw [szP_app]; omega
      · rw [List.all_append, ← ge]
        exact hg'
      · intro y hy
        rcases List.mem_append.mp hy with hy | hy
        · exact hd y (by simp [hy])
        · exact inn_pd (hd q (by simp)) e y hy
      · rw [szP_app]; omega
end
end SF
set_option Elab.async false
set_option linter.all false
set_option maxRecDepth 100000
set_option maxHeartbeats 4000000
/-! over the store: written dicts, slices told -/
namespace SL
open PySem PySem.Spec PyProof.Rows L2 G0
section
variable {K : PySem.W.Frag} {s : Sto} {Γ : List (Option U)} {Post P : Sto → U → Prop} {tk tv : TE} {α α' : AM} {H H' : Hp} {W : WU} {σ : L2.St}
/-- dict(x): a copy -/
theorem dictD {n : Nat} {ks : List Key} {ds : List U} (hs : s[n]? = some (.dct ks ds)) (q : Post (s ++ [.dct ks ds]) (.rf s.length)) : suRA K (fun xs H Q => ∃ (a : Addr) (kvs : List (Key × V)), xs = [.ref a] ∧ Rd H a (.dK kvs) ∧ ∀ p, H p = none → Q (.ref p) (upd H p (.dK kvs))) [.rf n] s Post := fun W α Γ σ H vs Q E r k => by
  obtain ⟨v, r', rfl, r1, r2⟩ := ru_cons.mp r
  obtain rfl := ru_nil.mp r2
  obtain ⟨a, ws, rfl, h1, h2, h3, h4⟩ := dct_at E.ok hs r1
  exact ⟨a, ks.zip ws, rfl, .inl h2, fun p hp => k (α ++ [p]) _ _ _ _ q (Ext.add hp) (E.step (Ext.add hp) (E.ok.add hp ⟨ws, upd_same, by rw [h3, ru_len h4], h4.ext (Ext.add hp)⟩)) (ru_rf.mpr ⟨p, by rw [E.ok.len]; simp, rfl⟩)⟩
instance st_dictD {n : Nat} {ks : List Key} {ds : List U} [hs : BVAt s n (.dct ks ds)] : BVSt (suRA K (fun xs H Q => ∃ (a : Addr) (kvs : List (Key × V)), xs = [.ref a] ∧ Rd H a (.dK kvs) ∧ ∀ p, H p = none → Q (.ref p) (upd H p (.dK kvs))) [.rf n] s Post) (Post (s ++ [.dct ks ds]) (.rf s.length)) := ⟨fun q => dictD hs.eq q⟩
/-- tuple(x) -/
theorem thn {te : TE} {r : V → Hp → VK → Prop} (h : suE K te s Γ fun s1 x => suR1 K r x s1 Post) : suE K (tThen te r) s Γ Post := SL.un h
instance st_thn {te : TE} {r : V → Hp → VK → Prop} : BVSt (suE K (tThen te r) s Γ Post) (suE K te s Γ fun s1 x => suR1 K r x s1 Post) := ⟨fun h => thn h⟩
/-- over the letters of a text -/
def lettU (z : Str) : List U := z.cps.toList.map fun c => U.str ⟨#[c]⟩
theorem wstr {te : TE} {Pl : Sto → (Sto → Prop) → List U → Prop} (h : suE K te s Γ fun s1 b => ∃ z, b = .str z ∧ Pl s1 (fun _ => True) (lettU z)) : suI K (iStr te) s Γ Pl := fun W α σ H R E q =>
  RD.istr' (h W α σ H _ E fun α1 s1 b v H1 p k1 E1 r1 => by
    obtain ⟨z, rfl, p⟩ := p
    refine ⟨z, ru_str.mp r1, q α1 s1 H1 _ (lettU z) _ p k1 E1 fun α2 s2 H2 i e2 ok2 _ => ?_⟩
    have hl : (lettU z).length = z.cps.size := by unfold lettU; rw [List.length_map, Array.length_toList]
    refine ⟨fun hi => by rw [hl] at hi; exact hi, fun hi => by rw [hl] at hi; exact hi, fun x H' hy hi => ?_⟩
    obtain ⟨rfl, c, hc, rfl⟩ := hy
    refine ⟨rfl, .str ⟨#[c]⟩, ?_, ru_str.mpr rfl⟩
    unfold lettU
    rw [List.getElem?_map, Array.getElem?_toList, hc]
    rfl)
end
/-! cuts -/
theorem cut_drop {α : Type} {ds : List α} {n : Nat} (h : n ≤ ds.length) : BV.cutB ds (some (n : Nat)) none = ds.drop n := by
  have e : HT.sIx ds.length 0 (some (n : Nat)) = n := by
    rw [HT.sIx_nat]
    omega
  have e2 : HT.sIx ds.length ds.length none = ds.length := rfl
  unfold BV.cutB
  rw [e, e2, List.take_of_length_le (by rw [List.length_drop]; exact Nat.le_refl _)]
end SL
set_option Elab.async false
set_option linter.all false
set_option maxRecDepth 100000
set_option maxHeartbeats 4000000
/-! by value: comprehensions over rows of one kind, with a test -/
namespace BV
open PySem PySem.Spec PyProof.Rows L2 G0
section
variable {G M : DK} {K : PySem.W.Frag} {W : Wd} {Γ Γ' : List Cell} {σ σ' : L2.St} {H H' H1 : Hp} {Post P : B → Prop} {te ta tb td ty tk tv tx : TE} {t tr : TA} {Z Z' : AS} {o : Sr} {t1 t2 : TS} {e : En} {g g1 : TG} {wi wi1 : TI} {tt tt1 c : TT} {ws ws1 : List Nat} {ks : List Key} {ds xs : List B} {kt : List (List Key)} {α : Type}
/-! ### what is walked under a lock -/
theorem selVK (hU : G.U) {i : Nat} (h : Γ[i]? = some (.sh (.dct ks ds))) : Sel G G.lo K (iKeys (tVar i)) (fun kvs p od => Itk p od kvs) Γ ks ds :=
  selLo (wt := iKeys) hU (srcVar h) fun σ H R p od kvs ⟨v, h1, e, h2, r⟩ => ⟨v, h1, p, od, e, .inl ⟨kvs, h2, r⟩⟩
end
end BV
set_option Elab.async false
set_option linter.all false
set_option maxRecDepth 100000
set_option maxHeartbeats 4000000
/-! by value: an object whose one field changes between two truths -/
namespace BV
open PySem PySem.Spec PyProof.Rows L2 G0
section
variable {G M : DK} {K : PySem.W.Frag} {W : Wd} {Γ Γ' : List Cell} {σ σ' : L2.St} {H H' H1 : Hp} {Post P : B → Prop} {te ta tb td ty tk tv tx : TE} {t tr : TA} {Z Z' : AS} {o o' : Sr} {t1 t2 : TS} {e : En} {g g1 : TG} {wi wi1 : TI} {tt tt1 c : TT} {ws ws1 : List Nat} {ks : List Key} {ds xs : List B} {kt : List (List Key)} {α : Type}
/-- the same locks, no state -/
def Sr.off (o : Sr) : Sr := ⟨fun _ _ => False, o.L⟩
/-- there is one state -/
def Uq (o : Sr) : Prop := ∀ a c a' c', o.s a c → o.s a' c' → a' = a ∧ c' = c
/-! ### one field that is a truth -/
/-- the object of C at st with its dict at cl; its field f is h -/
def GF (C : Addr) (f : Str) (h : Bool) : DK where
  D := fun H st cl => H st = some (.ins C cl.a [(f, .bl h)]) ∧ H cl.a = some (.own st) ∧ cl.a ≠ st
  off := fun ⟨a, b, c⟩ e1 e2 => ⟨e1.trans a, e2.trans b, c⟩
  st := fun ⟨a, _, _⟩ z => by rw [a] at z; cases z
  cl := fun ⟨_, b, _⟩ => ⟨_, b, trivial⟩
  ne := fun ⟨_, _, c⟩ => c
  U := False
  wok := fun _ _ o => Uq o
section
variable (C : Addr) (f : Str) (K)
def bzE (te : TE) (h : Bool) (Γ : List Cell) (Post : Bool → B → Prop) : Prop := ∀ (W : Wd) (σ : L2.St) (H : Hp) (Q : VK), Env (GF C f h) K W Γ σ H → (∀ (h' : Bool) (b : B) (v : V) (H' : Hp), Post h' b → Kp W.o H H' → Env (GF C f h') K W Γ σ H' → Rp K (ZZ W Γ σ) W.o H' b v → Q v H') → te σ H Q
structure EZ where
  N : Bool → List Cell → Prop
  R : Bool → B → Prop
def bzS (ts : TS) (h : Bool) (Γ : List Cell) (e : EZ) : Prop := ∀ (W : Wd) (σ : L2.St) (H : Hp) (D : Ends), Env (GF C f h) K W Γ σ H → (∀ (h' : Bool) (Γ' : List Cell) (σ' : L2.St) (H' : Hp), e.N h' Γ' → Env (GF C f h') K W Γ' σ' H' → D.nx σ' H') → (∀ (h' : Bool) (b : B) (v : V) (H' : Hp), e.R h' b → Fin (GF C f h') K W H' b v → D.rt v H') → ts D σ H
end
variable {C : Addr} {f : Str} {h h' : Bool} {ez : EZ}
theorem bzE.mono {P Post : Bool → B → Prop} (q : bzE K C f te h Γ P) (k : ∀ h b, P h b → Post h b) : bzE K C f te h Γ Post := fun W σ H Q E kk => q W σ H Q E fun h' b v H' p => kk h' b v H' (k _ _ p)
/-! ### statements -/
theorem bzS.mono {ez' : EZ} (q : bzS K C f t1 h Γ ez) (n : ∀ h g, ez.N h g → ez'.N h g) (r : ∀ h b, ez.R h b → ez'.R h b) : bzS K C f t1 h Γ ez' := fun W σ H D E q1 q2 => q W σ H D E (fun h' g s H z => q1 h' g s H (n _ _ z)) fun h' b v H z => q2 h' b v H (r _ _ z)
end
end BV
set_option Elab.async false
set_option linter.all false
set_option maxRecDepth 100000
set_option maxHeartbeats 4000000
/-! rules of our own: list(reversed(a list)) -/
set_option Elab.async false
set_option linter.all false
set_option maxRecDepth 100000
set_option maxHeartbeats 4000000
/-! by value: reversed lists; equal tuples -/
namespace BV
open PySem PySem.Spec PyProof.Rows L2 G0
section
variable {G M : DK} {K : PySem.W.Frag} {W : Wd} {Γ Γ' : List Cell} {σ σ' : L2.St} {H H' H1 : Hp} {Post P : B → Prop} {te ta tb td ty tk tv tx : TE} {t tr : TA} {Z Z' : AS} {o o' : Sr} {t1 t2 : TS} {e : En} {ks : List Key} {ds xs : List B}
theorem irev {σ : L2.St} {H : Hp} {R : It → Hp → Prop} (h : t σ H fun vs H1 => ∃ a xs, vs = [.ref a] ∧ SqL K H1 a xs ∧ R (Itv K a xs.length) H1) : iRev K t σ H R := h
theorem wrev {Pl : List B → Prop} (h : bwA G K t Γ fun bs => ∃ ds, bs = [.lst ds] ∧ Pl ds.reverse) : bwI G K (iRev K t) Γ Pl := fun W σ H R E q =>
  irev (h W σ H _ E fun bs vs0 H1 p k1 E1 r1 => by
    obtain ⟨ds, rfl, p⟩ := p
    obtain ⟨v, r, rfl, r2, rn⟩ := rps_cons.mp r1
    obtain rfl := rps_nil.mp rn
    obtain ⟨a, vs, rfl, hz, h1, h2⟩ := rp_lst.mp r2
    have hvl := rps_len h2
    refine ⟨a, vs, rfl, SqL.of h1, q ds.reverse [(.lst ds, .ref a)] [] _ H1 p k1 E1 (fun b u hb => ?_) (fun _ _ z => (List.not_mem_nil z).elim) ?_⟩
    · rw [List.mem_singleton] at hb
      cases hb
      exact r2
    · have get : ∀ {Z : AS} {H : Hp}, (∀ b v, (b, v) ∈ [(B.lst ds, V.ref a)] → Rp K Z W.o H b v) → ∃ vs, H a = some (.lst vs) ∧ Rps K Z W.o H ds vs := fun hh => by
        obtain ⟨p, vs, e, _, a1, a2⟩ := rp_lst.mp (hh _ _ (List.mem_singleton.mpr rfl))
        cases e
        exact ⟨vs, a1, a2⟩
      refine ⟨fun Z H i hh _ hi => ?_, fun Z H i hh _ hi => ?_, fun Z H i x H' hh _ _ hy hi => ?_⟩
      · obtain ⟨us, a1, a2⟩ := get hh
        have hul := rps_len a2
        rw [List.length_reverse] at hi
        exact ⟨by omega, us, us[vs.length - 1 - i]'(by omega), SqL.of a1, List.getElem?_eq_getElem _⟩
      · rw [List.length_reverse] at hi
        show vs.length ≤ i
        omega
      · obtain ⟨us, a1, a2⟩ := get hh
        obtain ⟨rfl, hx⟩ := hy
        rw [List.length_reverse] at hi
        obtain ⟨d, b1, b2⟩ := rps_atv a2 (hx us (SqL.of a1))
        rw [← hvl] at b1
        exact ⟨Same.refl _, d, by rw [List.getElem?_reverse hi]; exact b1, b2⟩)
/-- xs[j] = v, one's own list -/
theorem setL {i : Nat} {ds : List B} {n : Nat} (h : Γ[i]? = some (.ow (.lst ds))) (q : bwE G K tv Γ fun v => bwE G K ty Γ fun y => ∃ k : Int, y = .int k ∧ ixN ds.length k = some n ∧ e.N (Γ.set i (.ow (.lst (ds.set n v))))) :
    bwS G K (tAsg tv (gSub (tVar i) ty rSetL)) Γ e := fun W σ H D E q1 q2 q3 q4 q5 =>
  RD.asg (q W σ H _ E fun b v H1 p1 k1 E1 r1 => by
    obtain ⟨p, h1, _⟩ := E1.ow i _ h
    refine RD.var h1 (p1 W σ H1 _ E1 fun y u H2 p2 k2 E2 r2 => ?_)
    obtain ⟨k, rfl, hn, pn⟩ := p2
    obtain ⟨p', h1', h2, h3, vs, h4, h5⟩ := E2.ow i _ h
    rw [h1] at h1'
    cases h1'
    refine ⟨p, vs, k, n, rfl, rp_int.mp r2, h4, by rw [← rps_len h5]; exact hn, q1 _ _ _ pn (E2.mut h h1 ⟨_, upd_same, ?_⟩)⟩
    have off := off_own (W := W) (H := H2) (u := .lst (vs.set n v)) h h1
    exact (rps_set h5 (r1.kp E1.zs k2)).off off)
end
end BV
set_option Elab.async false
set_option linter.all false
set_option maxRecDepth 100000
set_option maxHeartbeats 4000000
/-! by value: a list of one number that changes while it is handed on -/
namespace BV
open PySem PySem.Spec PyProof.Rows L2 G0
/-- the kind 0 of what changes is a list of one number -/
structure RoomG (G : DK) : Prop where
  get : ∀ {H : Hp} {st : Addr} {cl : Tg}, G.D H st cl → cl.t = 0 + 1 → ∃ n : Int, H st = some (.lst [.int n])
  put : ∀ {H : Hp} {st : Addr} {cl : Tg} {n m : Int}, G.D H st cl → H st = some (.lst [.int n]) → G.D (upd H st (.lst [.int m])) st cl
  new : ∀ {H : Hp} {st : Addr} {cl : Tg} {p : Addr} {n : Int}, G.D H st cl → H p = some (.lst [.int n]) → cl.a ≠ p → G.D H p ⟨cl.a, 0 + 1⟩
section
variable {G M : DK} {K : PySem.W.Frag} {W : Wd} {Γ Γ' : List Cell} {σ σ' : L2.St} {H H' H1 : Hp} {Post P : B → Prop} {te ta tb td ty tk tv tx : TE} {t tr : TA} {Z Z' : AS} {o o' : Sr} {t1 t2 : TS} {e : En} {ks : List Key} {ds xs : List B}
/-- xs[0] = a number -/
theorem setM {i : Nat} (hG : RoomG G) (h : Γ[i]? = some (.sh (.mu 0))) (q : bwE G K tv Γ fun v => ∃ m : Int, v = .int m ∧ e.N Γ) :
    bwS G K (tAsg tv (gSub (tVar i) (tC (.int 0)) rSetL)) Γ e := fun W σ H D E q1 q2 q3 q4 q5 =>
  RD.asg (q W σ H _ E fun b v H1 p1 k1 E1 r1 => by
    obtain ⟨m, rfl, pn⟩ := p1
    rw [rp_int.mp r1]
    obtain ⟨v, a1, a2⟩ := E1.sh i _ h
    obtain ⟨st, cl, h1, h2, rfl⟩ := rp_mu.mp a2
    have hd := E1.dok st cl h1
    obtain ⟨n, hn⟩ := hG.get hd h2
    have kk : Kp W.o H1 (upd H1 st (.lst [.int m])) := fun c u hs hc => by
      rw [upd_ne fun z => hs (by rw [z]; exact ⟨cl, h1⟩)]
      exact hc
    have dd : DOk G W (upd H1 st (.lst [.int m])) := fun s' c' z => by
      have hd' := E1.dok s' c' z
      by_cases es : s' = st
      · subst es
        exact hG.put hd' hn
      · exact G.off hd' (upd_ne es) (upd_ne fun z2 => (E1.src s' c' z).2 (by rw [z2]; exact .inl (E1.src st cl h1).1))
    exact RD.var a1 ⟨st, _, 0, 0, rfl, rfl, hn, rfl, q1 Γ σ _ pn (E1.step kk dd)⟩)
end
end BV
set_option Elab.async false
set_option linter.all false
set_option maxRecDepth 100000
set_option maxHeartbeats 4000000
/-! by value: comprehensions whose items are told by a predicate -/
namespace BV
open PySem PySem.Spec PyProof.Rows L2 G0
end BV
set_option Elab.async false
set_option linter.all false
set_option maxRecDepth 100000
set_option maxHeartbeats 4000000
/-! by value: is of truths -/
namespace BV
open PySem PySem.Spec PyProof.Rows L2 G0
section
variable {G : DK} {K : PySem.W.Frag} {Post : B → Prop}
theorem isB {a b : Bool} (q : Post (.bl (decide (a = b)))) : bwR2 G K rIsB (.bl a) (.bl b) Post := fun W Γ σ H v u Q E r1 r2 k => ⟨a, b, rp_bl.mp r1, rp_bl.mp r2, k _ _ H q Kp.refl E (rp_bl.mpr rfl)⟩
end
end BV
set_option Elab.async false
set_option linter.all false
set_option maxRecDepth 100000
set_option maxHeartbeats 4000000
/-! != of two tuples that are equal in depth -/
set_option Elab.async false
set_option linter.all false
set_option maxRecDepth 100000
set_option maxHeartbeats 4000000
/-! over the store: xs[::-1], != of equal tuples, isinstance of flat data, is True, x in a list of texts -/
namespace SL
open PySem PySem.Spec PyProof.Rows L2 G0
section
variable {K : PySem.W.Frag} {s : Sto} {Γ : List (Option U)} {Post P : Sto → U → Prop} {α α' : AM} {H H' : Hp} {W : WU} {σ : L2.St}
theorem ru_rev : ∀ {ds : List U} {vs : List V}, RpsU K α H ds vs → RpsU K α H ds.reverse vs.reverse
  | [], vs, h => by rw [ru_nil.mp h]; exact ru_nil.mpr rfl
  | d :: ds, vs, h => by
    obtain ⟨v, r, rfl, a, b⟩ := ru_cons.mp h
    rw [List.reverse_cons, List.reverse_cons]
    exact ru_app (ru_rev b) (ru_one a)
/-- xs[::-1] -/
theorem revL {te : TE} (h : suE K te s Γ fun s1 x => ∃ n ds, x = .rf n ∧ s1[n]? = some (.lst ds) ∧ Post (s1 ++ [.lst ds.reverse]) (.rf s1.length)) : suE K (tRevL K te) s Γ Post := fun W α σ H Q E k =>
  h W α σ H _ E fun α1 s1 x v H1 p1 k1 E1 r1 => by
    obtain ⟨n, ds, rfl, hs, pp⟩ := p1
    obtain ⟨a, vs, rfl, h1, h2, h3⟩ := lst_at E1.ok hs r1
    exact ⟨a, vs, rfl, SqL.of h2, fun p hp => k (α1 ++ [p]) _ _ _ _ pp (k1.trans (Ext.add hp)) (E1.step (Ext.add hp) (E1.ok.add hp ⟨_, upd_same, (ru_rev h3).ext (Ext.add hp)⟩)) (ru_rf.mpr ⟨p, by rw [E1.ok.len]; simp, rfl⟩)⟩
instance st_revL {te : TE} : BVSt (suE K (tRevL K te) s Γ Post) (suE K te s Γ fun s1 x => ∃ n ds, x = .rf n ∧ s1[n]? = some (.lst ds) ∧ Post (s1 ++ [.lst ds.reverse]) (.rf s1.length)) := ⟨fun h => revL h⟩
/-- isinstance(x, S), flat data -/
theorem isi {b : BV.B} {u : U} {S : String} (hS : S ∈ ["bool", "int", "str", "tuple", "list", "dict"]) (hx : BV.isPlainB b = true) (hu : Dr s b u) (q : Post s (.bl (BV.isTy b S))) : suRA K (rIsi K) [u, .raw (.ty S)] s Post := fun W α Γ σ H vs Q E r k => by
  obtain ⟨v, r, rfl, a1, a2⟩ := ru_cons.mp r
  obtain ⟨v2, r2, rfl, b1, b2⟩ := ru_cons.mp a2
  obtain rfl := ru_nil.mp b2
  rw [ru_raw.mp b1]
  exact SF.isi_go (BV.ty_rp (dr_rp E.ok hu a1) hx) (BV.kit_is hx hS) (k α s _ _ H q Ext.refl E (ru_bl.mpr rfl))
theorem isB {a b : Bool} (q : Post s (.bl (decide (a = b)))) : suR2 K rIsB (.bl a) (.bl b) s Post := fun W α Γ σ H v u Q E r1 r2 k => ⟨a, b, ru_bl.mp r1, ru_bl.mp r2, k α s _ _ H q Ext.refl E (ru_bl.mpr rfl)⟩
instance st_isB {a b : Bool} : BVSt (suR2 K rIsB (.bl a) (.bl b) s Post) (Post s (.bl (decide (a = b)))) := ⟨fun q => isB q⟩
theorem ru_strs : ∀ {ss : List Str} {vs : List V}, RpsU K α H (ss.map U.str) vs → vs = ss.map V.str
  | [], vs, h => ru_nil.mp h
  | z :: ss, vs, h => by
    rw [List.map_cons] at h
    obtain ⟨v, r, rfl, a, b⟩ := ru_cons.mp h
    rw [ru_str.mp a, ru_strs b]
    rfl
/-- a and b, a or b, not a, as values -/
theorem andV {ta tb : TE} (h : suE K ta s Γ fun s1 x => ∃ c, x = .bl c ∧ if c = true then suE K tb s1 Γ Post else Post s1 (.bl false)) : suE K (tAndV ta tb) s Γ Post := fun W α σ H Q E k =>
  h W α σ H _ E fun α1 s1 x v H1 p1 k1 E1 r1 => by
    obtain ⟨c, rfl, p⟩ := p1
    refine ⟨c, ru_bl.mp r1, ?_⟩
    cases c with
    | true =>
      rw [if_pos rfl] at p ⊢
      exact p W α1 σ H1 Q E1 fun α2 s2 b v H2 pb k2 => k α2 s2 b v H2 pb (k1.trans k2)
    | false =>
      rw [if_neg Bool.false_ne_true] at p ⊢
      exact k α1 s1 _ _ H1 p k1 E1 (ru_bl.mpr rfl)
theorem orV {ta tb : TE} (h : suE K ta s Γ fun s1 x => ∃ c, x = .bl c ∧ if c = true then Post s1 (.bl true) else suE K tb s1 Γ Post) : suE K (tOrV ta tb) s Γ Post := fun W α σ H Q E k =>
  h W α σ H _ E fun α1 s1 x v H1 p1 k1 E1 r1 => by
    obtain ⟨c, rfl, p⟩ := p1
    refine ⟨c, ru_bl.mp r1, ?_⟩
    cases c with
    | true =>
      rw [if_pos rfl] at p ⊢
      exact k α1 s1 _ _ H1 p k1 E1 (ru_bl.mpr rfl)
    | false =>
      rw [if_neg Bool.false_ne_true] at p ⊢
      exact p W α1 σ H1 Q E1 fun α2 s2 b v H2 pb k2 => k α2 s2 b v H2 pb (k1.trans k2)
theorem notV {ta : TE} (h : suE K ta s Γ fun s1 x => ∃ c, x = .bl c ∧ Post s1 (.bl (!c))) : suE K (tNotV ta) s Γ Post := fun W α σ H Q E k =>
  h W α σ H _ E fun α1 s1 x v H1 p1 k1 E1 r1 => by
    obtain ⟨c, rfl, p⟩ := p1
    exact ⟨c, ru_bl.mp r1, k α1 s1 _ _ H1 p k1 E1 (ru_bl.mpr rfl)⟩
instance st_andV {ta tb : TE} : BVSt (suE K (tAndV ta tb) s Γ Post) (suE K ta s Γ fun s1 x => ∃ c, x = .bl c ∧ if c = true then suE K tb s1 Γ Post else Post s1 (.bl false)) := ⟨fun h => andV h⟩
instance st_orV {ta tb : TE} : BVSt (suE K (tOrV ta tb) s Γ Post) (suE K ta s Γ fun s1 x => ∃ c, x = .bl c ∧ if c = true then Post s1 (.bl true) else suE K tb s1 Γ Post) := ⟨fun h => orV h⟩
instance st_notV {ta : TE} : BVSt (suE K (tNotV ta) s Γ Post) (suE K ta s Γ fun s1 x => ∃ c, x = .bl c ∧ Post s1 (.bl (!c))) := ⟨fun h => notV h⟩
end
end SL
set_option Elab.async false
set_option linter.all false
set_option maxRecDepth 100000
set_option maxHeartbeats 4000000
/-! over the store: instances: their fields, methods, how they are made; setdefault; truth of lists -/
namespace SL
open PySem PySem.Spec PyProof.Rows L2 G0
/-- a class whose things have these fields, none of which it has itself -/
structure KC (K : PySem.W.Frag) (C : Addr) (fs : List Str) : Prop where
  cl : Cls K C
  no : ∀ f ∈ fs, NoAttr K C f
def fldU : List Str → List U → Str → Option U
  | f :: fs, d :: ds, g => if f = g then some d else fldU fs ds g
  | _, _, _ => none
def putFU (f : Str) (y : U) : List Str → List U → List Str × List U
  | g :: fs, d :: ds => if g = f then (g :: fs, y :: ds) else (g :: (putFU f y fs ds).1, d :: (putFU f y fs ds).2)
  | _, _ => ([f], [y])
section
variable {K : PySem.W.Frag} {s : Sto} {Γ : List (Option U)} {Post P : Sto → U → Prop} {α α' : AM} {H H' : Hp} {W : WU} {σ : L2.St} {te ta tb td ty tx : TE} {t : TA} {e : EU} {f : Str} {C : Addr}
theorem fld_at {u : U} : ∀ {fs : List Str} {ds : List U} {vs : List V}, fldU fs ds f = some u → RpsU K α H ds vs → ∃ v, (fs.zip vs).lookup f = some v ∧ RpU K α H u v
  | [], ds, vs, h, r => by simp [fldU] at h
  | g :: fs, [], vs, h, r => by simp [fldU] at h
  | g :: fs, d :: ds, vs, h, r => by
    obtain ⟨v, r', rfl, a, b⟩ := ru_cons.mp r
    rw [fldU] at h
    rw [List.zip_cons_cons, List.lookup_cons]
    by_cases q : g = f
    · rw [if_pos q] at h
      rw [show (f == g) = true from beq_iff_eq.mpr q.symm]
      cases h
      exact ⟨v, rfl, a⟩
    · rw [if_neg q] at h
      rw [show (f == g) = false from beq_eq_false_iff_ne.mpr fun z => q z.symm]
      exact fld_at h b
theorem putF_at {y : U} {w : V} (rw_ : RpU K α H y w) : ∀ {fs : List Str} {ds : List U} {vs : List V}, fs.length = ds.length → RpsU K α H ds vs → ∃ vs', putF f w (fs.zip vs) = (putFU f y fs ds).1.zip vs' ∧ (putFU f y fs ds).1.length = (putFU f y fs ds).2.length ∧ RpsU K α H (putFU f y fs ds).2 vs'
  | [], [], vs, hl, r => by
    rw [ru_nil.mp r]
    exact ⟨[w], rfl, rfl, ru_one rw_⟩
  | [], d :: ds, vs, hl, r => by cases hl
  | g :: fs, [], vs, hl, r => by cases hl
  | g :: fs, d :: ds, vs, hl, r => by
    obtain ⟨v, r', rfl, a, b⟩ := ru_cons.mp r
    rw [List.zip_cons_cons, putF, putFU]
    by_cases q : g = f
    · rw [if_pos q, if_pos q]
      exact ⟨w :: r', rfl, by rw [List.length_cons, List.length_cons, Nat.succ.inj hl], ru_cons.mpr ⟨w, r', rfl, rw_, b⟩⟩
    · rw [if_neg q, if_neg q]
      obtain ⟨vs', h1, h2, h3⟩ := putF_at rw_ (fs := fs) (Nat.succ.inj hl) b
      exact ⟨v :: vs', by rw [h1]; rfl, by dsimp only; rw [List.length_cons, List.length_cons, h2], ru_cons.mpr ⟨v, vs', rfl, a, h3⟩⟩
theorem ins_at {n : Nat} {fs : List Str} {ds : List U} {v : V} (ok : SOk K α s H) (h : s[n]? = some (.ins C fs ds)) (r : RpU K α H (.rf n) v) : ∃ a dx vs, v = .ref a ∧ α[n]? = some a ∧ H a = some (.ins C dx (fs.zip vs)) ∧ fs.length = ds.length ∧ RpsU K α H ds vs := by
  obtain ⟨a, h1, rfl⟩ := ru_rf.mp r
  obtain ⟨dx, vs, h2, h3, h4⟩ := ok.ob n _ a h h1
  exact ⟨a, dx, vs, rfl, h1, h2, h3, h4⟩
/-- o.f at a thing -/
def FldAt (K : PySem.W.Frag) (s : Sto) (x : U) (f : Str) (P : U → Prop) : Prop := ∃ n C fs ds u, x = .rf n ∧ s[n]? = some (.ins C fs ds) ∧ Cls K C ∧ NoAttr K C f ∧ fldU fs ds f = some u ∧ P u
theorem fldAt {n : Nat} {all fs : List Str} {ds : List U} {u : U} {P : U → Prop} (kc : KC K C all) (hs : s[n]? = some (.ins C fs ds)) (hf : f ∈ all) (hu : fldU fs ds f = some u) (q : P u) : FldAt K s (.rf n) f P := ⟨n, C, fs, ds, u, rfl, hs, kc.cl, kc.no f hf, hu, q⟩
theorem fld (h : suE K te s Γ fun s1 x => FldAt K s1 x f fun u => Post s1 u) : suE K (tFld K te f) s Γ Post := fun W α σ H Q E k =>
  h W α σ H _ E fun α1 s1 x v H1 p1 k1 E1 r1 => by
    obtain ⟨n, C, fs, ds, u, rfl, hs, hc, hn, hu, pp⟩ := p1
    obtain ⟨a, dx, vs, rfl, h1, h2, h3, h4⟩ := ins_at E1.ok hs r1
    obtain ⟨w, e1, e2⟩ := fld_at hu h4
    exact ⟨a, C, dx, _, w, rfl, h2, hc, hn, e1, k α1 s1 u w H1 pp k1 E1 e2⟩
instance st_fld : BVSt (suE K (tFld K te f) s Γ Post) (suE K te s Γ fun s1 x => FldAt K s1 x f fun u => Post s1 u) := ⟨fun h => fld h⟩
/-- o.f = y at a thing -/
def SetAt (K : PySem.W.Frag) (s : Sto) (x : U) (f : Str) (y : U) (P : Sto → Prop) : Prop := ∃ n C fs ds, x = .rf n ∧ s[n]? = some (.ins C fs ds) ∧ Cls K C ∧ NoAttr K C f ∧ fs.length < 1000 ∧ P (s.set n (.ins C (putFU f y fs ds).1 (putFU f y fs ds).2))
theorem setAt {n : Nat} {all fs fs' : List Str} {ds ds' : List U} {y : U} {P : Sto → Prop} (kc : KC K C all) (hs : s[n]? = some (.ins C fs ds)) (hf : f ∈ all) (hl : fs.length < 1000) (hp : putFU f y fs ds = (fs', ds')) (q : P (s.set n (.ins C fs' ds'))) : SetAt K s (.rf n) f y P := ⟨n, C, fs, ds, rfl, hs, kc.cl, kc.no f hf, hl, by rw [hp]; exact q⟩
theorem SetAt.go {E : EnvU K W α s Γ σ H} {x y : U} {v w : V} {D : Sto → Prop} {Q : Hp → Prop} (p : SetAt K s x f y D) (rx : RpU K α H x v) (ry : RpU K α H y w) (k : ∀ s' H', D s' → Ext α H α H' → EnvU K W α s' Γ σ H' → Q H') : ∃ a C dx fs, v = .ref a ∧ H a = some (.ins C dx fs) ∧ Cls K C ∧ NoAttr K C f ∧ fs.length < 1000 ∧ Q (upd H a (.ins C dx (putF f w fs))) := by
  obtain ⟨n, C, fs, ds, rfl, hs, hc, hn, hl, pp⟩ := p
  obtain ⟨a, dx, vs, rfl, h1, h2, h3, h4⟩ := ins_at E.ok hs rx
  obtain ⟨vs', g1, g2, g3⟩ := putF_at ry h3 h4 (f := f)
  have ee := Ext.chg (H := H) (u := .ins C dx (putF f w (fs.zip vs))) (List.mem_of_getElem? h1)
  exact ⟨a, C, dx, _, rfl, h2, hc, hn, by rw [List.length_zip]; omega, k _ _ pp ee (E.step ee (E.ok.chg h1 ⟨dx, vs', by rw [upd_same, g1], g2, g3.ext ee⟩))⟩
theorem sfld (h : suE K tb s Γ fun s1 y => suE K ta s1 Γ fun s2 x => SetAt K s2 x f y fun s3 => e.N s3 Γ) : suS K (sFld K ta tb f) s Γ e := fun W α σ H D E q1 q2 q3 q4 =>
  h W α σ H _ E fun α1 s1 y w H1 p1 k1 E1 r1 => p1 W α1 σ H1 _ E1 fun α2 s2 x v H2 p2 k2 E2 r2 => SetAt.go (E := E2) p2 r2 (r1.ext k2) fun s3 H3 n k3 E3 => q1 α2 s3 Γ σ H3 n E3
instance st_sfld : BVSt (suS K (sFld K ta tb f) s Γ e) (suE K tb s Γ fun s1 y => suE K ta s1 Γ fun s2 x => SetAt K s2 x f y fun s3 => e.N s3 Γ) := ⟨fun h => sfld h⟩
/-- o.f op= y -/
theorem faug {rd : V → V → Hp → VK → Prop} (h : suE K ta s Γ fun s1 x => ∃ n C fs ds u, x = .rf n ∧ s1[n]? = some (.ins C fs ds) ∧ Cls K C ∧ NoAttr K C f ∧ fldU fs ds f = some u ∧ suE K tb s1 Γ fun s2 y => suR2 K rd u y s2 fun s3 z => ∃ fs' ds', s3[n]? = some (.ins C fs' ds') ∧ fs'.length < 1000 ∧ e.N (s3.set n (.ins C (putFU f z fs' ds').1 (putFU f z fs' ds').2)) Γ) : suS K (sFldAug K ta tb rd f) s Γ e := fun W α σ H D E q1 q2 q3 q4 =>
  h W α σ H _ E fun α1 s1 x v H1 p1 k1 E1 r1 => by
    obtain ⟨n, C, fs, ds, u, rfl, hs, hc, hn, hu, pp⟩ := p1
    obtain ⟨a, dx, vs, rfl, h1, h2, h3, h4⟩ := ins_at E1.ok hs r1
    obtain ⟨w, e1, e2⟩ := fld_at hu h4
    refine ⟨a, C, dx, _, w, rfl, h2, hc, hn, e1, pp W α1 σ H1 _ E1 fun α2 s2 y w2 H2 p2 k2 E2 r2 => ?_⟩
    refine p2 W α2 Γ σ H2 w w2 _ E2 (e2.ext k2) r2 fun α3 s3 z w3 H3 p3 k3 E3 r3 => ?_
    obtain ⟨fs', ds', hs3, hl, pn⟩ := p3
    obtain ⟨a', dx', vs', ea, g1, g2, g3, g4⟩ := ins_at E3.ok hs3 ((r1.ext k2).ext k3)
    cases ea
    obtain ⟨vs2, b1, b2, b3⟩ := putF_at r3 g3 g4 (f := f)
    have ee := Ext.chg (H := H3) (u := .ins C dx' (putF f w3 (fs'.zip vs'))) (List.mem_of_getElem? g1)
    exact ⟨dx', _, g2, by rw [List.length_zip]; omega, q1 α3 _ Γ σ _ pn (E3.step ee (E3.ok.chg g1 ⟨dx', vs2, by rw [upd_same, b1], b2, b3.ext ee⟩))⟩
theorem fld_none : ∀ {fs : List Str} {vs : List V}, f ∉ fs → (fs.zip vs).lookup f = none
  | [], vs, h => by simp
  | g :: fs, [], h => by simp
  | g :: fs, v :: vs, h => by
    rw [List.zip_cons_cons, List.lookup_cons, show (f == g) = false from beq_eq_false_iff_ne.mpr fun z => h (by rw [z]; exact List.mem_cons_self)]
    exact fld_none fun z => h (List.mem_cons_of_mem _ z)
/-- o.m(..) -/
def MethAt (s : Sto) (x : U) (C : Addr) (m : Str) (P : Prop) : Prop := ∃ n fs ds, x = .rf n ∧ s[n]? = some (.ins C fs ds) ∧ m ∉ fs ∧ P
theorem methAt {n : Nat} {fs : List Str} {ds : List U} {m : Str} {P : Prop} (hs : s[n]? = some (.ins C fs ds)) (hm : m ∉ fs) (q : P) : MethAt s (.rf n) C m P := ⟨n, fs, ds, rfl, hs, hm, q⟩
theorem meth {m : Str} {Wp : Sto → List U → (Sto → U → Prop) → Prop} {E0 : XK} (h : suE K ta s Γ fun s1 x => MethAt s1 x C m (suA K t s1 Γ fun s2 us => Wp s2 (x :: us) Post)) : suE K (tMeth C m (SpU K Wp) [] E0 ta t) s Γ Post := fun W α σ H Q E k =>
  h W α σ H _ E fun α1 s1 x v H1 p1 k1 E1 r1 => by
    obtain ⟨n, fs, ds, rfl, hs, hm, pp⟩ := p1
    obtain ⟨a, dx, vs, rfl, h1, h2, h3, h4⟩ := ins_at E1.ok hs r1
    refine ⟨a, dx, _, rfl, h2, fld_none hm, pp W α1 σ H1 _ E1 fun α2 s2 us vs2 H2 p2 k2 E2 r2 => ?_⟩
    rw [List.append_nil]
    exact ⟨α2, s2, _, Post, E2.ok, ru_cons.mpr ⟨_, _, rfl, r1.ext k2, r2⟩, p2, fun s3 u v H3 pb ⟨α3, ok3, k3, r3⟩ => k α3 s3 u v H3 pb (k1.trans (k2.trans k3)) (E2.step k3 ok3) r3⟩
instance st_meth {m : Str} {Wp : Sto → List U → (Sto → U → Prop) → Prop} {E0 : XK} : BVSt (suE K (tMeth C m (SpU K Wp) [] E0 ta t) s Γ Post) (suE K ta s Γ fun s1 x => MethAt s1 x C m (suA K t s1 Γ fun s2 us => Wp s2 (x :: us) Post)) := ⟨fun h => meth h⟩
/-- C(..) -/
theorem make {Wp : Sto → List U → (Sto → U → Prop) → Prop} {E0 : XK} (h : suA K t s Γ fun s1 us => Wp (s1 ++ [.ins C [] []]) (.rf s1.length :: us) fun s2 u => u = .non ∧ Post s2 (.rf s1.length)) : suE K (tMake C (SpU K Wp) [] E0 t) s Γ Post := fun W α σ H Q E k =>
  h W α σ H _ E fun α1 s1 us vs H1 p1 k1 E1 r1 => fun x dx hx hdx hne => by
    have e1 := Ext.put (α := α1) (u := HO.own x) hdx
    have E2 := E1.step e1 (E1.ok.nw hdx)
    have hx2 : upd H1 dx (HO.own x) x = none := by rw [upd_ne hne.symm]; exact hx
    have e2 := Ext.add (α := α1) (u := HO.ins C dx []) hx2
    have E3 := E2.step e2 (E2.ok.add hx2 (b := .ins C [] []) ⟨dx, [], upd_same, rfl, ru_nil.mpr rfl⟩)
    have hxn : (α1 ++ [x])[s1.length]? = some x := by rw [E1.ok.len]; simp
    rw [List.append_nil]
    refine ⟨α1 ++ [x], _, _, _, E3.ok, ru_cons.mpr ⟨_, _, rfl, ru_rf.mpr ⟨x, hxn, rfl⟩, (r1.ext e1).ext e2⟩, p1, fun s3 u v H3 pb ⟨α3, ok3, k3, r3⟩ => ?_⟩
    obtain ⟨rfl, pb⟩ := pb
    exact ⟨ru_non.mp r3, k α3 s3 _ _ H3 pb (k1.trans (e1.trans (e2.trans k3))) (E3.step k3 ok3) (ru_rf.mpr ⟨x, k3.get hxn, rfl⟩)⟩
instance st_make {Wp : Sto → List U → (Sto → U → Prop) → Prop} {E0 : XK} : BVSt (suE K (tMake C (SpU K Wp) [] E0 t) s Γ Post) (suA K t s Γ fun s1 us => Wp (s1 ++ [.ins C [] []]) (.rf s1.length :: us) fun s2 u => u = .non ∧ Post s2 (.rf s1.length)) := ⟨fun h => make h⟩
/-- d.setdefault(k, z) -/
theorem dsetd (h : suE K td s Γ fun s1 x => ∃ n, x = .rf n ∧ (∃ ks ds, s1[n]? = some (.dct ks ds)) ∧ suE K ty s1 Γ fun s2 y => suE K tx s2 Γ fun s3 z => ∃ ks ds k, s3[n]? = some (.dct ks ds) ∧ y = keyU k ∧ ks.length < sizeLine ∧ (∀ d, getU ks ds k = some d → Post s3 d) ∧ (getU ks ds k = none → Post (s3.set n (.dct (putU ks ds k z).1 (putU ks ds k z).2)) z)) : suE K (tDSetd td ty tx) s Γ Post := fun W α σ H Q E k =>
  h W α σ H _ E fun α1 s1 x v H1 p1 k1 E1 r1 => by
    obtain ⟨n, rfl, ⟨ks0, ds0, hs0⟩, pp⟩ := p1
    obtain ⟨a, vs0, rfl, h1, h2, h3, h4⟩ := dct_at E1.ok hs0 r1
    refine ⟨a, rfl, .inl ⟨_, .inl h2⟩, pp W α1 σ H1 _ E1 fun α2 s2 y u H2 p2 k2 E2 r2 => p2 W α2 σ H2 _ E2 fun α3 s3 z w H3 p3 k3 E3 r3 => ?_⟩
    obtain ⟨ks, ds, key, hs, rfl, hz, q1, q2⟩ := p3
    obtain ⟨a', vs, ea, g1, g2, g3, g4⟩ := dct_at E3.ok hs ((r1.ext k2).ext k3)
    cases ea
    refine ⟨_, key, g2, ru_key (r2.ext k3), by rw [List.length_zip]; omega, fun v hv => ?_, fun hv => ?_⟩
    · cases q : getU ks ds key with
      | none => rw [(get_zipU g3 g4).1 q] at hv; cases hv
      | some d =>
        obtain ⟨v', e1, e2⟩ := (get_zipU g3 g4).2 d q
        rw [e1] at hv
        cases hv
        exact k α3 s3 d _ H3 (q1 d q) (k1.trans (k2.trans k3)) E3 e2
    · cases q : getU ks ds key with
      | some d =>
        obtain ⟨v', e1, e2⟩ := (get_zipU g3 g4).2 d q
        rw [e1] at hv
        cases hv
      | none =>
        obtain ⟨vs', b1, b2, b3⟩ := put_zipU (k := key) g3 g4 r3
        have ee := Ext.chg (H := H3) (u := .dK (putK (ks.zip vs) key w)) (List.mem_of_getElem? g1)
        exact k α3 _ z w _ (q2 q) (k1.trans (k2.trans (k3.trans ee))) (E3.step ee (E3.ok.chg g1 ⟨vs', by rw [upd_same, b1], b2, b3.ext ee⟩)) (r3.ext ee)
/-- k not in d -/
theorem dnin (h : suE K ty s Γ fun s1 y => suE K td s1 Γ fun s2 x => ∃ n ks ds k, x = .rf n ∧ s2[n]? = some (.dct ks ds) ∧ y = keyU k ∧ Post s2 (.bl (!(getU ks ds k).isSome))) : suE K (tDNotIn ty td) s Γ Post := fun W α σ H Q E k =>
  h W α σ H _ E fun α1 s1 y u H1 p1 k1 E1 r1 => p1 W α1 σ H1 _ E1 fun α2 s2 x v H2 p2 k2 E2 r2 => by
    obtain ⟨n, ks, ds, kk, rfl, hs, rfl, pd⟩ := p2
    obtain ⟨a, vs, rfl, h1, h2, h3, h4⟩ := dct_at E2.ok hs r2
    have e : (valV (ks.zip vs) kk).isSome = (getU ks ds kk).isSome := by
      cases q : getU ks ds kk with
      | none => rw [(get_zipU h3 h4).1 q]; rfl
      | some d => obtain ⟨w, e1, _⟩ := (get_zipU h3 h4).2 d q; rw [e1]; rfl
    refine ⟨a, valV (ks.zip vs) kk, rfl, ?_, k α2 s2 _ _ H2 pd (k1.trans k2) E2 (by rw [e]; exact ru_bl.mpr rfl)⟩
    rw [ru_key (r1.ext k2)]
    exact DGet.k h2
/-- a list as a test -/
theorem truL {PB : Sto → Bool → Prop} (h : suE K ta s Γ fun s1 x => ∃ n ds, x = .rf n ∧ s1[n]? = some (.lst ds) ∧ PB s1 (!ds.isEmpty)) : suT K (fun σ H Q => ta σ H fun x H' => ∃ k, TruV K x H' k ∧ Q k H') s Γ PB := fun W α σ H Q E k =>
  h W α σ H _ E fun α1 s1 x v H1 p1 k1 E1 r1 => by
    obtain ⟨n, ds, rfl, hs, pp⟩ := p1
    obtain ⟨a, vs, rfl, h1, h2, h3⟩ := lst_at E1.ok hs r1
    refine ⟨!ds.isEmpty, .inl ⟨vs, SqL.of h2, ?_⟩, k α1 s1 _ H1 pp k1 E1⟩
    have := ru_len h3
    cases ds <;> cases vs <;> simp at this ⊢
theorem at0U {x : U} {r : List U} : atI (x :: r) 0 = some x := atN (l := x :: r) (n := 0) rfl
theorem at1U {x y : U} {r : List U} : atI (x :: y :: r) 1 = some y := atN (l := x :: y :: r) (n := 1) rfl
/-- z in t, texts -/
theorem inT {z : Str} {ss : List Str} (q : Post s (.bl (decide (z ∈ ss)))) : suR2 K (rIn K false) (.str z) (.tup (ss.map U.str)) s Post := fun W α Γ σ H v u Q E r1 r2 k => by
  rw [ru_str.mp r1]
  obtain ⟨p, vs, rfl, h1, h2⟩ := ru_tup.mp r2
  have := ru_strs h2
  subst this
  exact ⟨p, _, rfl, .inr h1.sq, rfl, BV.flat_strs, k α s _ _ H q Ext.refl E (ru_bl.mpr (by rw [if_neg Bool.false_ne_true, BV.inV_strs]))⟩
/-- z in a written table -/
theorem kinU {d : Addr} {ns : List Str} {z : Str} (l : BV.KeyT K d ns) (q : Post s (.bl (decide (z ∈ ns)))) : suR2 K (BV.rInKd K d) (.str z) (.raw (.ref d)) s Post := fun W α Γ σ H v u Q E r1 r2 k => by
  rw [ru_str.mp r1, ru_raw.mp r2]
  obtain ⟨r, e1, e2⟩ := l z
  exact ⟨z, r, rfl, rfl, e1, k α s _ _ H q Ext.refl E (ru_bl.mpr (by rw [e2]))⟩
theorem atLastU {xs : List U} {d : U} : atI (xs ++ [d]) (-1) = some d := atI_of (n := xs.length) (by
  rw [List.length_append]
  show ixN (xs.length + 1) (-1) = _
  unfold ixN
  rw [if_neg (by decide), if_pos (by omega)]
  congr 1
  omega) (by rw [List.getElem?_append_right (Nat.le_refl _), Nat.sub_self]; rfl)
theorem cutLastU {xs : List U} {d : U} : BV.cutB (xs ++ [d]) (some (-1)) none = [d] := by
  have e : HT.sIx (xs ++ [d]).length 0 (some (-1)) = xs.length := by
    rw [List.length_append]
    unfold HT.sIx
    simp
    omega
  have e2 : HT.sIx (xs ++ [d]).length (xs ++ [d]).length none = xs.length + 1 := by rw [List.length_append]; rfl
  unfold BV.cutB
  rw [e, e2, List.drop_append_of_le_length (Nat.le_refl _), List.drop_length, List.nil_append, Nat.add_sub_cancel_left]
  rfl
/-- -i -/
theorem negI {i : Int} (q : Post s (.int (-i))) : suR1 K (rU fun i => .int (-i)) (.int i) s Post := fun W α Γ σ H v Q E r k => by
  rw [ru_int.mp r]
  exact ⟨i, rfl, k α s _ _ H q Ext.refl E (ru_int.mpr rfl)⟩
instance st_negI {i : Int} : BVSt (suR1 K (rU fun i => .int (-i)) (.int i) s Post) (Post s (.int (-i))) := ⟨fun q => negI q⟩
/-- x is not None -/
theorem notN {x : U} {b : Bool} (h : isNon x = some b) (q : Post s (.bl (!b))) : suR2 K rNotN x .non s Post := fun W α Γ σ H v w Q E r1 r2 k => by
  rw [ru_non.mp r2]
  have kk := k α s (.bl (!b)) (.bl (!b)) H q Ext.refl E (ru_bl.mpr rfl)
  cases x with
  | non => cases h; rw [ru_non.mp r1]; exact RD.notN_n kk
  | bl b => cases h; rw [ru_bl.mp r1]; exact ⟨rfl, kk⟩
  | int i => cases h; rw [ru_int.mp r1]; exact ⟨rfl, kk⟩
  | str z => cases h; rw [ru_str.mp r1]; exact RD.notN_s kk
  | tup ds => cases h; obtain ⟨p, _, rfl, _⟩ := ru_tup.mp r1; exact RD.notN_r kk
  | rf n => cases h; obtain ⟨p, _, rfl⟩ := ru_rf.mp r1; exact RD.notN_r kk
  | raw v => cases h
instance st_notN_non : BVSt (suR2 K rNotN .non .non s Post) (Post s (.bl false)) := ⟨fun q => notN (b := true) rfl q⟩
instance st_notN_str {x : Str} : BVSt (suR2 K rNotN (.str x) .non s Post) (Post s (.bl true)) := ⟨fun q => notN (b := false) rfl q⟩
instance st_notN_tup {x : List U} : BVSt (suR2 K rNotN (.tup x) .non s Post) (Post s (.bl true)) := ⟨fun q => notN (b := false) rfl q⟩
instance st_notN_rf {x : Nat} : BVSt (suR2 K rNotN (.rf x) .non s Post) (Post s (.bl true)) := ⟨fun q => notN (b := false) rfl q⟩
instance st_isN_bl {x : Bool} : BVSt (suR2 K rIsN (.bl x) .non s Post) (Post s (.bl false)) := ⟨fun q => isN rfl q⟩
instance st_isN_int {x : Int} : BVSt (suR2 K rIsN (.int x) .non s Post) (Post s (.bl false)) := ⟨fun q => isN rfl q⟩
/-- i += j -/
theorem addI {i j : Int} (q : Post s (.int (i + j))) : suR2 K rAdd (.int i) (.int j) s Post := fun W α Γ σ H v w Q E r1 r2 k => by
  rw [ru_int.mp r1, ru_int.mp r2]
  exact ⟨i, j, rfl, rfl, k α s _ _ H q Ext.refl E (ru_int.mpr rfl)⟩
instance st_addI {i j : Int} : BVSt (suR2 K rAdd (.int i) (.int j) s Post) (Post s (.int (i + j))) := ⟨fun q => addI q⟩
theorem ixLast {n : Nat} {xs : List U} {d : U} (hs : s[n]? = some (.lst (xs ++ [d]))) (q : Post s d) : suR2 K (rIxL K) (.rf n) (.int (-1)) s Post := SL.ixL hs (atI_of (n := xs.length) (by
  rw [List.length_append]
  show ixN (xs.length + 1) (-1) = _
  unfold ixN
  rw [if_neg (by decide), if_pos (by omega)]
  congr 1
  omega) (by rw [List.getElem?_append_right (Nat.le_refl _), Nat.sub_self]; rfl)) q
end
end SL
set_option Elab.async false
set_option linter.all false
set_option maxRecDepth 100000
set_option maxHeartbeats 4000000
/-! the machine over the store: surroundings, calls, functions, things, levels -/
namespace SF
open PySem PySem.Spec PyProof.Rows L2 G0 SL
open C8 (Cal Mak Met pe_c pe_mk pe_mt pe_mt0 pe_gc)
/-- the built-ins that the machine calls -/
structure TxtR (K : PySem.W.Frag) (mg : Str → Option Value) : Prop where
  b_len : mg "len" = none
  b_isinstance : mg "isinstance" = none
  b_enumerate : mg "enumerate" = none
  b_max : mg "max" = none
  b_list : mg "list" = none
  b_tuple : mg "tuple" = none
  b_range : mg "range" = none
  b_reversed : mg "reversed" = none
  b_int : mg "int" = none
  b_str : mg "str" = none
  b_abs : mg "abs" = none
theorem hu_of {k : Nat} {A : Around} (hr : Room k A) : A.units + 1 < cLine := by have := hr.units; omega
/-- the classes of the machine's things -/
structure Ks where
  CM : Addr
  CC : Addr
  CS : Addr
  CL : Addr
  CF : Addr
  CT : Addr
def surFs : List Str := ["outer", "pasts"]
def calFs : List Str := ["surroundings", "thing", "text", "waiting", "number"]
def lvlFs : List Str := ["kind", "block", "call", "more", "reached"]
def funFs : List Str := ["params", "block", "made_in"]
def thiFs : List Str := ["chain", "pasts"]
def macFs : List Str := ["_classes", "_chains", "_body", "_levels", "_going", "steps", "printed", "deepest", "ending"]
structure KsOk (K : PySem.W.Frag) (k : Ks) : Prop where
  m : KC K k.CM macFs
  c : KC K k.CC calFs
  s : KC K k.CS surFs
  l : KC K k.CL lvlFs
  f : KC K k.CF funFs
  t : KC K k.CT thiFs
/-! ### what the defs do -/
def WSur (k : Ks) (s : Sto) (us : List U) (R : Sto → U → Prop) : Prop := ∃ n o, us = [.rf n, o] ∧ s[n]? = some (Ob.ins k.CS [] []) ∧ R ((s ++ [Ob.dct [] []]).set n (Ob.ins k.CS surFs [o, .rf s.length])) .non
def WCal (k : Ks) (s : Sto) (us : List U) (R : Sto → U → Prop) : Prop := ∃ n a b c d e, us = [.rf n, a, b, c, d, e] ∧ s[n]? = some (Ob.ins k.CC [] []) ∧ R (s.set n (Ob.ins k.CC calFs [a, b, c, d, e])) .non
def WLvl (k : Ks) (s : Sto) (us : List U) (R : Sto → U → Prop) : Prop := ∃ n a b c d, us = [.rf n, a, b, c, d] ∧ s[n]? = some (Ob.ins k.CL [] []) ∧ R (s.set n (Ob.ins k.CL lvlFs [a, b, c, d, .int 0])) .non
def WFun (k : Ks) (s : Sto) (us : List U) (R : Sto → U → Prop) : Prop := ∃ n a b c, us = [.rf n, a, b, c] ∧ s[n]? = some (Ob.ins k.CF [] []) ∧ R (s.set n (Ob.ins k.CF funFs [a, b, c])) .non
/-- surroundings: their outer ones, their dict -/
def SurAt (k : Ks) (s : Sto) (i : Nat) (o : U) (p : Nat) (ks : List Key) (ls : List U) : Prop := s[i]? = some (Ob.ins k.CS surFs [o, .rf p]) ∧ s[p]? = some (Ob.dct ks ls)
inductive GiveR (k : Ks) (s : Sto) (i : Nat) (n : Str) (v : U) (st : Int) : Sto → Prop
  | old {o p ks ls l xs} : SurAt k s i o p ks ls → getU ks ls (.inr n) = some (.rf l) → s[l]? = some (Ob.lst xs) → xs.length < sizeLine → ks.length < sizeLine → GiveR k s i n v st ((s ++ [Ob.lst []]).set l (Ob.lst (xs ++ [.tup [.int st, v]])))
  | new {o p ks ls} : SurAt k s i o p ks ls → getU ks ls (.inr n) = none → ks.length < sizeLine → GiveR k s i n v st (((s ++ [Ob.lst []]).set p (Ob.dct (putU ks ls (.inr n) (.rf s.length)).1 (putU ks ls (.inr n) (.rf s.length)).2)).set s.length (Ob.lst [.tup [.int st, v]]))
def WGive (k : Ks) (s : Sto) (us : List U) (R : Sto → U → Prop) : Prop := ∃ i n v st s', us = [.rf i, .str n, v, .int st] ∧ GiveR k s i n v st s' ∧ R s' .non
/-- the nearest surroundings that have a name; the number bounds how far out -/
inductive NearR (k : Ks) (s : Sto) (n : Str) : Nat → U → U → Prop
  | here {i o p ks ls d} : SurAt k s i o p ks ls → getU ks ls (.inr n) = some d → NearR k s n 0 (.rf i) (.rf i)
  | out {j i o p ks ls u} : SurAt k s i o p ks ls → getU ks ls (.inr n) = none → NearR k s n j o u → NearR k s n (j + 1) (.rf i) u
  | no : NearR k s n 0 .non .non
def WNear (k : Ks) (s : Sto) (us : List U) (R : Sto → U → Prop) : Prop := ∃ i n j u, us = [.rf i, .str n] ∧ NearR k s n j (.rf i) u ∧ R s u
def WLatest (s : Sto) (us : List U) (R : Sto → U → Prop) : Prop := ∃ l xs t v, us = [.rf l] ∧ s[l]? = some (Ob.lst (xs ++ [.tup [t, v]])) ∧ R s v
section
variable {P : Program} {w : World} {K : PySem.W.Frag} {mg : Str → Option Value} {base : Heap}
set_option synthInstance.maxSize 100000
set_option synthInstance.maxHeartbeats 0
local macro_rules | `(tactic| walk_at "bvg2") => `(tactic| first
  | ((with_reducible refine And.intro (show List.length _ ≤ sizeLine from ?hz) ?_); (case hz => exact Nat.le_of_ble_eq_true rfl)) | ((with_reducible refine And.intro (show List.length _ < sizeLine from ?hz) ?_); (case hz => exact Nat.le_of_ble_eq_true rfl))
  | ((with_reducible refine RD.ifDT ?hd ?_); (case hd => first | decide +kernel | exact rfl)) | ((with_reducible refine RD.ifDF ?hd ?_); (case hd => first | decide +kernel | exact rfl))
  | ((with_reducible refine BV.catT ?hz ?_); (case hz => exact Nat.le_of_ble_eq_true rfl)) | ((with_reducible refine BV.catL ?hz ?_); (case hz => exact Nat.le_of_ble_eq_true rfl))
  | (with_reducible refine BV.ofN (BV.dNew ?_))
  | ((with_reducible apply BV.gtup); exact rfl)
  | ((with_reducible refine BV.vname ?hh ?_); (case hh => decide)) | ((with_reducible apply BV.vtup); exact rfl))
local macro_rules | `(tactic| walk_at "bvg1") => `(tactic| first
  | (with_reducible refine BV.strJoin ?_)
  | (with_reducible first | refine BV.i0 ?_ | refine BV.i0b ?_)
  | ((with_reducible apply BV.ixT); exact rfl) | (with_reducible refine BV.ixT BV.at0' ?_) | ((with_reducible apply BV.ixL); exact rfl)
  | ((with_reducible apply BV.lenO); exact rfl)
  | ((with_reducible refine BV.isi ?hh ?hp ?_); (case hh => decide +kernel); (case hp => exact rfl)) | ((with_reducible refine BV.isN ?hp ?_); (case hp => exact rfl)) | ((with_reducible refine BV.notN ?hp ?_); (case hp => exact rfl)))
local macro_rules | `(tactic| walk_at "bvg0") => `(tactic| first
  | ((with_reducible apply BV.var); exact rfl)
  | ((with_reducible apply BV.retO); exact rfl) | (with_reducible refine BV.ret ?_) | ((with_reducible apply BV.asgPop); exact rfl) | (with_reducible refine BV.asg ?_) | ((with_reducible apply BV.asgPopG); exact rfl) | (with_reducible refine BV.asgG ?_)
  | ((with_reducible apply BV.append); exact rfl) | ((with_reducible apply BV.extend); exact rfl) | ((with_reducible apply BV.augI); exact rfl) | ((with_reducible apply BV.truO); exact rfl) | (with_reducible refine BV.dropE ?_)
  | ((with_reducible refine BV.isiT2 ?h1 ?h2 ?_); (case h1 => decide +kernel); (case h2 => decide +kernel)) | ((with_reducible refine And.intro (show isPlainB _ = true from ?hz) ?_); (case hz => exact rfl)) | ((with_reducible refine BV.listVals ?hu ?_); (case hu => trivial)))
local macro_rules | `(tactic| walk_at "bvgu") => `(tactic| first
  | ((with_reducible apply SL.ixT); exact rfl) | (with_reducible refine SL.ixT SL.at0U ?_) | (with_reducible refine SL.ixT SL.at1U ?_)
  | ((with_reducible apply SL.fldAt); (case hs => assumption); (case kc => assumption); (case hf => decide); (case hu => exact rfl))
  | ((with_reducible apply SL.methAt); (case hs => assumption); (case hm => decide)))
local macro_rules | `(tactic| walk_at "bv1") => `(tactic| first | (with_reducible refine BVSt.mp ?_) | walk_at "bvg0" | walk_at "bvg1" | walk_at "bvg2")
local macro_rules | `(tactic| walk_at "bv") => `(tactic| repeat first | (with_reducible refine bvRun ?_) | (with_reducible refine BVSt.mp ?_) | walk_at "bvg0" | walk_at "bvg1" | walk_at "bvg2")
local macro_rules | `(tactic| walk_at "bu") => `(tactic| repeat first | (with_reducible refine bvRun ?_) | (with_reducible refine BVSt.mp ?_) | walk_at "bvgu" | walk_at "bvg0" | walk_at "bvg1" | walk_at "bvg2")
theorem sc_Surroundings___init__ : FnScope ["self", "outer"] ["self", "outer"] (defScope (inClass (topS 49) 0)) := ⟨rfl, rfl, rfl, by decide +kernel, rfl, by decide +kernel, by decide +kernel⟩
theorem ok_Sur (T : TxtR K mg) {k : Ks} (kk : KsOk K k) {f : Addr} {fd : FuncData} (F : Fun K "__init__" "Surroundings.__init__" (inClass (topS 49) 0) f fd) : FnOk P w K mg base CX0 1 f fd ["self", "outer"] (SpU K (WSur k)) := by
  refine F.ok sc_Surroundings___init__ (fun vs H Q E h => SL.spLen (fun s us R hW => by obtain ⟨n, o, rfl, _⟩ := hW; rfl) h) (fun cdv A outer s H vs Q E hr h => ?_)
  have hu := hu_of hr
  refine ⟨_, (pss_cons (ps_fld (pv 0) (pv 1) rfl)
      (pss_one (ps_fld (pv 0) pe_dnewK rfl))), ?_⟩
  refine SL.body h _ fun s us R hW hl => ?_
  obtain ⟨n, o, rfl, hs, hq⟩ := hW
  change suS K _ s [some (.rf n), some o] _
  try dsimp only [cxOf, Cx.nox]
  have hn := (List.getElem?_eq_some_iff.mp hs).1
  walk_at "bv"
  refine setAt (fs' := ["outer"]) (ds' := [o]) kk.s hs (by decide) (by decide) rfl ?_
  walk_at "bv"
  have h1 : (s.set n (Ob.ins k.CS ["outer"] [o]) ++ [Ob.dct [] []])[n]? = some (Ob.ins k.CS ["outer"] [o]) := by
    rw [List.getElem?_append_left (by rw [List.length_set]; exact hn), List.getElem?_set_self hn]
  refine setAt (fs' := ["outer", "pasts"]) (ds' := [o, .rf _]) kk.s h1 (by decide) (by decide) rfl ?_
  walk_at "bv"
  have e : (s.set n (Ob.ins k.CS ["outer"] [o]) ++ [Ob.dct [] []]).set n (Ob.ins k.CS ["outer", "pasts"] [o, .rf (s.set n (Ob.ins k.CS ["outer"] [o])).length]) = (s ++ [Ob.dct [] []]).set n (Ob.ins k.CS surFs [o, .rf s.length]) := by
    rw [List.length_set, List.set_append_left _ _ (by rw [List.length_set]; exact hn), List.set_append_left _ _ hn, List.set_set]
    rfl
  rw [← e] at hq
  exact hq
theorem sc_Call___init__ : FnScope ["self", "surroundings", "thing", "text", "waiting", "number"] ["self", "surroundings", "thing", "text", "waiting", "number"] (defScope (inClass (topS 50) 0)) := ⟨rfl, rfl, rfl, by decide +kernel, rfl, by decide +kernel, by decide +kernel⟩
theorem ok_Cal (T : TxtR K mg) {k : Ks} (kk : KsOk K k) {f : Addr} {fd : FuncData} (F : Fun K "__init__" "Call.__init__" (inClass (topS 50) 0) f fd) : FnOk P w K mg base CX0 1 f fd ["self", "surroundings", "thing", "text", "waiting", "number"] (SpU K (WCal k)) := by
  refine F.ok sc_Call___init__ (fun vs H Q E h => SL.spLen (fun s us R hW => by obtain ⟨n, a, b, c, d, e, rfl, _⟩ := hW; rfl) h) (fun cdv A outer s H vs Q E hr h => ?_)
  have hu := hu_of hr
  refine ⟨_, (pss_cons (ps_fld (pv 0) (pv 1) rfl)
      (pss_cons (ps_fld (pv 0) (pv 2) rfl)
      (pss_cons (ps_fld (pv 0) (pv 3) rfl)
      (pss_cons (ps_fld (pv 0) (pv 4) rfl)
      (pss_one (ps_fld (pv 0) (pv 5) rfl)))))), ?_⟩
  refine SL.body h _ fun s us R hW hl => ?_
  obtain ⟨n, a, b, c, d, e, rfl, hs, hq⟩ := hW
  change suS K _ s [some (.rf n), some a, some b, some c, some d, some e] _
  try dsimp only [cxOf, Cx.nox]
  have hn := (List.getElem?_eq_some_iff.mp hs).1
  walk_at "bv"
  refine setAt (fs' := ["surroundings"]) (ds' := [a]) kk.c hs (by decide) (by decide) rfl ?_
  walk_at "bv"
  refine setAt (fs' := ["surroundings", "thing"]) (ds' := [a, b]) kk.c (List.getElem?_set_self (by simpa using hn)) (by decide) (by decide) rfl ?_
  walk_at "bv"
  refine setAt (fs' := ["surroundings", "thing", "text"]) (ds' := [a, b, c]) kk.c (List.getElem?_set_self (by simpa using hn)) (by decide) (by decide) rfl ?_
  walk_at "bv"
  refine setAt (fs' := ["surroundings", "thing", "text", "waiting"]) (ds' := [a, b, c, d]) kk.c (List.getElem?_set_self (by simpa using hn)) (by decide) (by decide) rfl ?_
  walk_at "bv"
  refine setAt (fs' := ["surroundings", "thing", "text", "waiting", "number"]) (ds' := [a, b, c, d, e]) kk.c (List.getElem?_set_self (by simpa using hn)) (by decide) (by decide) rfl ?_
  walk_at "bv"
  simp only [List.set_set]
  exact hq
theorem sc_Level___init__ : FnScope ["self", "kind", "block", "call", "more"] ["self", "kind", "block", "call", "more"] (defScope (inClass (topS 56) 0)) := ⟨rfl, rfl, rfl, by decide +kernel, rfl, by decide +kernel, by decide +kernel⟩
theorem ok_Lvl (T : TxtR K mg) {k : Ks} (kk : KsOk K k) {f : Addr} {fd : FuncData} (F : Fun K "__init__" "Level.__init__" (inClass (topS 56) 0) f fd) : FnOk P w K mg base CX0 1 f fd ["self", "kind", "block", "call", "more"] (SpU K (WLvl k)) := by
  refine F.ok sc_Level___init__ (fun vs H Q E h => SL.spLen (fun s us R hW => by obtain ⟨n, a, b, c, d, rfl, _⟩ := hW; rfl) h) (fun cdv A outer s H vs Q E hr h => ?_)
  have hu := hu_of hr
  refine ⟨_, (pss_cons (ps_fld (pv 0) (pv 1) rfl)
      (pss_cons (ps_fld (pv 0) (pv 2) rfl)
      (pss_cons (ps_fld (pv 0) (pv 3) rfl)
      (pss_cons (ps_fld (pv 0) (pv 4) rfl)
      (pss_one (ps_fld (pv 0) pe_int rfl)))))), ?_⟩
  refine SL.body h _ fun s us R hW hl => ?_
  obtain ⟨n, a, b, c, d, rfl, hs, hq⟩ := hW
  change suS K _ s [some (.rf n), some a, some b, some c, some d] _
  try dsimp only [cxOf, Cx.nox]
  have hn := (List.getElem?_eq_some_iff.mp hs).1
  walk_at "bv"
  refine setAt (fs' := ["kind"]) (ds' := [a]) kk.l hs (by decide) (by decide) rfl ?_
  walk_at "bv"
  refine setAt (fs' := ["kind", "block"]) (ds' := [a, b]) kk.l (List.getElem?_set_self (by simpa using hn)) (by decide) (by decide) rfl ?_
  walk_at "bv"
  refine setAt (fs' := ["kind", "block", "call"]) (ds' := [a, b, c]) kk.l (List.getElem?_set_self (by simpa using hn)) (by decide) (by decide) rfl ?_
  walk_at "bv"
  refine setAt (fs' := ["kind", "block", "call", "more"]) (ds' := [a, b, c, d]) kk.l (List.getElem?_set_self (by simpa using hn)) (by decide) (by decide) rfl ?_
  walk_at "bv"
  refine setAt (fs' := ["kind", "block", "call", "more", "reached"]) (ds' := [a, b, c, d, .int 0]) kk.l (List.getElem?_set_self (by simpa using hn)) (by decide) (by decide) rfl ?_
  walk_at "bv"
  simp only [List.set_set]
  exact hq
theorem sc_Function___init__ : FnScope ["self", "params", "block", "made_in"] ["self", "params", "block", "made_in"] (defScope (inClass (topS 51) 0)) := ⟨rfl, rfl, rfl, by decide +kernel, rfl, by decide +kernel, by decide +kernel⟩
theorem ok_Fnc (T : TxtR K mg) {k : Ks} (kk : KsOk K k) {f : Addr} {fd : FuncData} (F : Fun K "__init__" "Function.__init__" (inClass (topS 51) 0) f fd) : FnOk P w K mg base CX0 1 f fd ["self", "params", "block", "made_in"] (SpU K (WFun k)) := by
  refine F.ok sc_Function___init__ (fun vs H Q E h => SL.spLen (fun s us R hW => by obtain ⟨n, a, b, c, rfl, _⟩ := hW; rfl) h) (fun cdv A outer s H vs Q E hr h => ?_)
  have hu := hu_of hr
  refine ⟨_, (pss_cons (ps_fld (pv 0) (pv 1) rfl)
      (pss_cons (ps_fld (pv 0) (pv 2) rfl)
      (pss_one (ps_fld (pv 0) (pv 3) rfl)))), ?_⟩
  refine SL.body h _ fun s us R hW hl => ?_
  obtain ⟨n, a, b, c, rfl, hs, hq⟩ := hW
  change suS K _ s [some (.rf n), some a, some b, some c] _
  try dsimp only [cxOf, Cx.nox]
  have hn := (List.getElem?_eq_some_iff.mp hs).1
  walk_at "bv"
  refine setAt (fs' := ["params"]) (ds' := [a]) kk.f hs (by decide) (by decide) rfl ?_
  walk_at "bv"
  refine setAt (fs' := ["params", "block"]) (ds' := [a, b]) kk.f (List.getElem?_set_self (by simpa using hn)) (by decide) (by decide) rfl ?_
  walk_at "bv"
  refine setAt (fs' := ["params", "block", "made_in"]) (ds' := [a, b, c]) kk.f (List.getElem?_set_self (by simpa using hn)) (by decide) (by decide) rfl ?_
  walk_at "bv"
  simp only [List.set_set]
  exact hq
theorem sc_latest : FnScope ["past"] ["past"] (defScope (topS 53)) := ⟨rfl, rfl, rfl, by decide +kernel, rfl, by decide +kernel, by decide +kernel⟩
theorem ok_latest (T : TxtR K mg) {f : Addr} {fd : FuncData} (F : Fun K "latest" "latest" (topS 53) f fd) : FnOk P w K mg base CX0 1 f fd ["past"] (SpU K WLatest) := by
  refine F.ok sc_latest (fun vs H Q E h => SL.spLen (fun s us R hW => by obtain ⟨l, xs, t, v, rfl, _⟩ := hW; rfl) h) (fun cdv A outer s H vs Q E hr h => ?_)
  have hu := hu_of hr
  refine ⟨_, (pss_one (ps_ret (pe_ix (r := rIxT K) ix_tup (pe_ix (r := rIxL K) ix_list (pv 0) (pe_un un_neg pe_int) (fun _ _ => rfl)) pe_int (fun _ _ => rfl)))), ?_⟩
  refine SL.body h _ fun s us R hW hl => ?_
  obtain ⟨l, xs, t, v, rfl, hs, hq⟩ := hW
  change suS K _ s [some (.rf l)] _
  try dsimp only [cxOf, Cx.nox]
  walk_at "bv"
  refine SL.ixLast hs ?_
  walk_at "bv"
  refine SL.ixT (show atI [t, v] 1 = some v from rfl) ?_
  exact hq
theorem sc_Surroundings_give : FnScope ["self", "name", "value", "step"] ["self", "name", "value", "step"] (defScope (inClass (topS 49) 1)) := ⟨rfl, rfl, rfl, by decide +kernel, rfl, by decide +kernel, by decide +kernel⟩
theorem ok_give (T : TxtR K mg) {k : Ks} (kk : KsOk K k) {f : Addr} {fd : FuncData} (F : Fun K "give" "Surroundings.give" (inClass (topS 49) 1) f fd) : FnOk P w K mg base CX0 1 f fd ["self", "name", "value", "step"] (SpU K (WGive k)) := by
  refine F.ok sc_Surroundings_give (fun vs H Q E h => SL.spLen (fun s us R hW => by obtain ⟨i, n, v, st, s', rfl, _⟩ := hW; rfl) h) (fun cdv A outer s H vs Q E hr h => ?_)
  have hu := hu_of hr
  refine ⟨_, (pss_one (ps_expr (pe_bm PySem.F.plainAttrs_list PySem.F.slot_list_append PySem.F.type_list_append mt_append (pe_dsetd (pe_fld (pv 0) rfl) (pv 1) (pe_lst pa_nil) ⟨rfl, by rfl, rfl, rfl⟩) (pa_cons (pe_tup (pa_cons (pv 3) (pa_cons (pv 2) pa_nil))) pa_nil)))), ?_⟩
  refine SL.body h _ fun s us R hW hl => ?_
  obtain ⟨i, n, v, st, s', rfl, hg, hq⟩ := hW
  change suS K _ s [some (.rf i), some (.str n), some v, some (.int st)] _
  try dsimp only [cxOf, Cx.nox]
  have ap : ∀ {j : Nat} {b : Ob}, s[j]? = some b → (s ++ [Ob.lst []])[j]? = some b := fun e => by rw [List.getElem?_append_left (List.getElem?_eq_some_iff.mp e).1]; exact e
  have la : (s ++ [Ob.lst []])[s.length]? = some (Ob.lst []) := by rw [List.getElem?_append_right (Nat.le_refl _), Nat.sub_self]; rfl
  walk_at "bv"
  refine SL.dsetd ?_
  walk_at "bv"
  cases hg with
  | @old o p ks ls l xs h1 h2 h3 h4 h5 =>
    refine fldAt kk.s h1.1 (by decide) rfl ?_
    refine ⟨p, rfl, ⟨ks, ls, h1.2⟩, ?_⟩
    walk_at "bv"
    refine ⟨ks, ls, .inr n, ap h1.2, rfl, h5, fun d hd => ?_, fun hd => by rw [h2] at hd; cases hd⟩
    rw [h2] at hd
    cases hd
    refine SL.lstAt_and (ap h3) ?_
    walk_at "bv"
    refine SL.append (ap h3) ⟨h4, ?_⟩
    exact hq
  | @new o p ks ls h1 h2 h3 =>
    refine fldAt kk.s h1.1 (by decide) rfl ?_
    refine ⟨p, rfl, ⟨ks, ls, h1.2⟩, ?_⟩
    walk_at "bv"
    refine ⟨ks, ls, .inr n, ap h1.2, rfl, h3, fun d hd => by rw [h2] at hd; (cases hd), fun _ => ?_⟩
    have hp : p < s.length := (List.getElem?_eq_some_iff.mp h1.2).1
    have lb : ((s ++ [Ob.lst []]).set p (Ob.dct (putU ks ls (.inr n) (.rf s.length)).1 (putU ks ls (.inr n) (.rf s.length)).2))[s.length]? = some (Ob.lst []) := by
      rw [List.getElem?_set_ne (by omega)]
      exact la
    refine SL.lstAt_and lb ?_
    walk_at "bv"
    refine SL.append lb ⟨by rw [sizeLine_eq]; exact Nat.le_of_ble_eq_true rfl, ?_⟩
    exact hq
theorem sc_Surroundings_nearest : FnScope ["self", "name", "found"] ["self", "name"] (defScope (inClass (topS 49) 2)) := ⟨rfl, rfl, rfl, by decide +kernel, rfl, by decide +kernel, by decide +kernel⟩
theorem ok_near (T : TxtR K mg) {k : Ks} (kk : KsOk K k) {f : Addr} {fd : FuncData} (F : Fun K "nearest" "Surroundings.nearest" (inClass (topS 49) 2) f fd) : FnOk P w K mg base CX0 1 f fd ["self", "name"] (SpU K (WNear k)) := by
  refine F.ok sc_Surroundings_nearest (fun vs H Q E h => SL.spLen (fun s us R hW => by obtain ⟨i, n, j, u, rfl, _⟩ := hW; rfl) h) (fun cdv A outer s H vs Q E hr h => ?_)
  have hu := hu_of hr
  refine ⟨_, (pss_cons (ps_set (i := 2) sc_Surroundings_nearest.nd rfl (Or.inl rfl) (pv 0))
      (pss_cons (ps_while PassesOwn.never ((pw_and (pt_cmpR op_notN1 (pv 2) pe_non (nomark _)) (pw_and1 (pt_cmp (pc_dnotin hu (pv 1) (pe_fld (pv 2) rfl)))))).pt (pss_one (ps_set (i := 2) sc_Surroundings_nearest.nd rfl (Or.inl rfl) (pe_fld (pv 2) rfl))))
      (pss_one (ps_ret (pv 2))))), ?_⟩
  refine SL.body h _ fun s us R hW hl => ?_
  obtain ⟨i, n, j, u, rfl, hg, hq⟩ := hW
  change suS K _ s [some (.rf i), some (.str n), none] _
  try dsimp only [cxOf, Cx.nox]
  walk_at "bv"
  refine SL.while_ (fun m s1 g => s1 = s ∧ ∃ x, NearR k s n m x u ∧ g = [some (.rf i), some (.str n), some x]) j ⟨rfl, _, hg, rfl⟩ fun m s1 g hJ => ?_
  obtain ⟨rfl, x, hx, rfl⟩ := hJ
  cases hx with
  | @here i' o p ks ls d h1 h2 =>
    walk_at "bv"
    refine SL.dnin ?_
    walk_at "bv"
    refine fldAt kk.s h1.1 (by decide) rfl ?_
    refine ⟨p, ks, ls, .inr n, rfl, h1.2, rfl, ?_⟩
    rw [h2]
    walk_at "bv"
    exact hq
  | @out m' i' o p ks ls u' h1 h2 h3 =>
    walk_at "bv"
    refine SL.dnin ?_
    walk_at "bv"
    refine fldAt kk.s h1.1 (by decide) rfl ?_
    refine ⟨p, ks, ls, .inr n, rfl, h1.2, rfl, ?_⟩
    rw [h2]
    walk_at "bv"
    refine fldAt kk.s h1.1 (by decide) rfl ?_
    walk_at "bv"
    exact ⟨m', Nat.lt_succ_self _, rfl, _, h3, rfl⟩
  | no =>
    walk_at "bv"
    exact hq
end
end SF
set_option Elab.async false
set_option linter.all false
set_option maxRecDepth 100000
set_option maxHeartbeats 4000000
/-! the machine over the store: values of simple expressions -/
namespace SF
open PySem PySem.Spec PyProof.Rows L2 G0 SL
open C8 (Cal Mak Met pe_c pe_mk pe_mt pe_mt0 pe_gc)
/-- what stands in a machine's fields -/
structure Mv where
  cl : Nat
  ch : Nat
  bd : Nat
  lv : Nat
  going : U
  steps : Int
  pr : Nat
  deep : Int
  ending : U
def Mv.l (m : Mv) : List U := [.rf m.cl, .rf m.ch, .rf m.bd, .rf m.lv, m.going, .int m.steps, .rf m.pr, .int m.deep, m.ending]
def MacAt (k : Ks) (s : Sto) (x : Nat) (m : Mv) : Prop := s[x]? = some (Ob.ins k.CM macFs m.l)
def CalAt (k : Ks) (s : Sto) (c sr : Nat) (th tx wt : U) (n : Int) : Prop := s[c]? = some (Ob.ins k.CC calFs [.rf sr, th, tx, wt, .int n])
def WRaise (k : Ks) (s : Sto) (us : List U) (R : Sto → U → Prop) : Prop := ∃ x v m, us = [.rf x, v] ∧ MacAt k s x m ∧ R (s.set x (Ob.ins k.CM macFs { m with going := .tup [.str "raise", v] }.l)) .non
/-- a simple expression other than a name has a value -/
inductive ValR (k : Ks) (s : Sto) (c : Nat) : U → U → Sto → Prop
  | word {z : Str} : ValR k s c (.tup [.str "word", .str z]) (.str z) s
  | none : ValR k s c (.tup [.str "none"]) .non s
  | me {sr th tx wt n} : CalAt k s c sr th tx wt n → ValR k s c (.tup [.str "me"]) th s
  | fn {ps b} : ValR k s c (.tup [.str "fn", ps, b]) (.rf s.length) (s ++ [Ob.ins k.CF funFs [ps, b, .rf c]])
def WValue (k : Ks) (s : Sto) (us : List U) (R : Sto → U → Prop) : Prop := ∃ x c e u s', us = [.rf x, e, .rf c] ∧ ValR k s c e u s' ∧ R s' u
def LastAt (s : Sto) (l : Nat) (v : U) : Prop := ∃ xs t, s[l]? = some (Ob.lst (xs ++ [.tup [t, v]]))
/-- the name has this value at the call -/
def NameV (k : Ks) (s : Sto) (c : Nat) (n : Str) (o : Option U) : Prop := ∃ sr th tx wt nn, CalAt k s c sr th tx wt nn ∧ match o with
  | none => ∃ j, NearR k s n j (.rf sr) .non
  | some v => ∃ j i o p ks ls l, NearR k s n j (.rf sr) (.rf i) ∧ SurAt k s i o p ks ls ∧ getU ks ls (.inr n) = some (.rf l) ∧ LastAt s l v
/-- f: where the list of the values stands; ok: all have one -/
inductive VsR (k : Ks) (c f : Nat) : Sto → List U → List U → Bool → List U → Sto → Prop
  | nil {s acc} : VsR k c f s [] acc true acc s
  | name {s n r acc v ok res s'} : NameV k s c n (some v) → VsR k c f (s.set f (Ob.lst (acc ++ [v]))) r (acc ++ [v]) ok res s' → VsR k c f s (.tup [.str "name", .str n] :: r) acc ok res s'
  | no {s n r acc} : NameV k s c n none → VsR k c f s (.tup [.str "name", .str n] :: r) acc false acc s
  | oth {s h t r acc u ok res s1 s'} : (h : Str) ≠ "name" → ValR k s c (.tup (.str h :: t)) u s1 → VsR k c f (s1.set f (Ob.lst (acc ++ [u]))) r (acc ++ [u]) ok res s' → VsR k c f s (.tup (.str h :: t) :: r) acc ok res s'
def WValues (k : Ks) (s : Sto) (us : List U) (R : Sto → U → Prop) : Prop := ∃ x c m es ok res s', us = [.rf x, .tup es, .rf c] ∧ MacAt k s x m ∧ es.length ≤ 1000 ∧ VsR k c s.length (s ++ [Ob.lst []]) es [] ok res s' ∧ R s' (if ok = true then .rf s.length else .non)
theorem NearR.at {k : Ks} {s : Sto} {n : Str} {j i : Nat} {u : U} (h : NearR k s n j (.rf i) u) : ∃ o p ks ls, SurAt k s i o p ks ls := by
  cases h with
  | here h1 h2 => exact ⟨_, _, _, _, h1⟩
  | out h1 h2 h3 => exact ⟨_, _, _, _, h1⟩
theorem ValR.ext {k : Ks} {s s' : Sto} {c : Nat} {e u : U} (h : ValR k s c e u s') : ∀ (i : Nat) (b : Ob), s[i]? = some b → s'[i]? = some b := by
  cases h with
  | fn => exact fun i b hb => by rw [List.getElem?_append_left (List.getElem?_eq_some_iff.mp hb).1]; exact hb
  | _ => exact fun i b hb => hb
section
variable {P : Program} {w : World} {K : PySem.W.Frag} {mg : Str → Option Value} {base : Heap}
set_option synthInstance.maxSize 100000
set_option synthInstance.maxHeartbeats 0
local macro_rules | `(tactic| walk_at "bvg2") => `(tactic| first
  | ((with_reducible refine And.intro (show List.length _ ≤ sizeLine from ?hz) ?_); (case hz => exact Nat.le_of_ble_eq_true rfl)) | ((with_reducible refine And.intro (show List.length _ < sizeLine from ?hz) ?_); (case hz => exact Nat.le_of_ble_eq_true rfl))
  | ((with_reducible refine RD.ifDT ?hd ?_); (case hd => first | decide +kernel | exact rfl)) | ((with_reducible refine RD.ifDF ?hd ?_); (case hd => first | decide +kernel | exact rfl))
  | ((with_reducible refine BV.catT ?hz ?_); (case hz => exact Nat.le_of_ble_eq_true rfl)) | ((with_reducible refine BV.catL ?hz ?_); (case hz => exact Nat.le_of_ble_eq_true rfl))
  | (with_reducible refine BV.ofN (BV.dNew ?_))
  | ((with_reducible apply BV.gtup); exact rfl)
  | ((with_reducible refine BV.vname ?hh ?_); (case hh => decide)) | ((with_reducible apply BV.vtup); exact rfl))
local macro_rules | `(tactic| walk_at "bvg1") => `(tactic| first
  | (with_reducible refine BV.strJoin ?_)
  | (with_reducible first | refine BV.i0 ?_ | refine BV.i0b ?_)
  | ((with_reducible apply BV.ixT); exact rfl) | (with_reducible refine BV.ixT BV.at0' ?_) | ((with_reducible apply BV.ixL); exact rfl)
  | ((with_reducible apply BV.lenO); exact rfl)
  | ((with_reducible refine BV.isi ?hh ?hp ?_); (case hh => decide +kernel); (case hp => exact rfl)) | ((with_reducible refine BV.isN ?hp ?_); (case hp => exact rfl)) | ((with_reducible refine BV.notN ?hp ?_); (case hp => exact rfl)))
local macro_rules | `(tactic| walk_at "bvg0") => `(tactic| first
  | ((with_reducible apply BV.var); exact rfl)
  | ((with_reducible apply BV.retO); exact rfl) | (with_reducible refine BV.ret ?_) | ((with_reducible apply BV.asgPop); exact rfl) | (with_reducible refine BV.asg ?_) | ((with_reducible apply BV.asgPopG); exact rfl) | (with_reducible refine BV.asgG ?_)
  | ((with_reducible apply BV.append); exact rfl) | ((with_reducible apply BV.extend); exact rfl) | ((with_reducible apply BV.augI); exact rfl) | ((with_reducible apply BV.truO); exact rfl) | (with_reducible refine BV.dropE ?_)
  | ((with_reducible refine BV.isiT2 ?h1 ?h2 ?_); (case h1 => decide +kernel); (case h2 => decide +kernel)) | ((with_reducible refine And.intro (show isPlainB _ = true from ?hz) ?_); (case hz => exact rfl)) | ((with_reducible refine BV.listVals ?hu ?_); (case hu => trivial)))
local macro_rules | `(tactic| walk_at "bvgu") => `(tactic| first
  | ((with_reducible apply SL.ixT); exact rfl) | (with_reducible refine SL.ixT SL.at0U ?_) | (with_reducible refine SL.ixT SL.at1U ?_)
  | ((with_reducible apply SL.fldAt); (case hs => assumption); (case kc => assumption); (case hf => decide); (case hu => exact rfl))
  | ((with_reducible apply SL.methAt); (case hs => assumption); (case hm => decide)))
local macro_rules | `(tactic| walk_at "bv1") => `(tactic| first | (with_reducible refine BVSt.mp ?_) | walk_at "bvg0" | walk_at "bvg1" | walk_at "bvg2")
local macro_rules | `(tactic| walk_at "bv") => `(tactic| repeat first | (with_reducible refine bvRun ?_) | (with_reducible refine BVSt.mp ?_) | walk_at "bvg0" | walk_at "bvg1" | walk_at "bvg2")
local macro_rules | `(tactic| walk_at "bu") => `(tactic| repeat first | (with_reducible refine bvRun ?_) | (with_reducible refine BVSt.mp ?_) | walk_at "bvgu" | walk_at "bvg0" | walk_at "bvg1" | walk_at "bvg2")
theorem sc_Machine__raise : FnScope ["self", "value"] ["self", "value"] (defScope (inClass (topS 57) 11)) := ⟨rfl, rfl, rfl, by decide +kernel, rfl, by decide +kernel, by decide +kernel⟩
theorem ok_MRaise (T : TxtR K mg) {k : Ks} (kk : KsOk K k) {f : Addr} {fd : FuncData} (F : Fun K "_raise" "Machine._raise" (inClass (topS 57) 11) f fd) : FnOk P w K mg base CX0 1 f fd ["self", "value"] (SpU K (WRaise k)) := by
  refine F.ok sc_Machine__raise (fun vs H Q E h => SL.spLen (fun s us R hW => by obtain ⟨x, v, m, rfl, _⟩ := hW; rfl) h) (fun cdv A outer s H vs Q E hr h => ?_)
  have hu := hu_of hr
  refine ⟨_, (pss_one (ps_fld (pv 0) (pe_tup (pa_cons pe_str (pa_cons (pv 1) pa_nil))) rfl)), ?_⟩
  refine SL.body h _ fun s us R hW hl => ?_
  obtain ⟨x, v, m, rfl, hm, hq⟩ := hW
  change suS K _ s [some (.rf x), some v] _
  try dsimp only [cxOf, Cx.nox]
  walk_at "bv"
  refine setAt (ds' := { m with going := .tup [.str "raise", v] }.l) kk.m hm (by decide) (by decide) rfl ?_
  exact hq
theorem sc_Machine__value : FnScope ["self", "simple", "call", "kind"] ["self", "simple", "call"] (defScope (inClass (topS 57) 9)) := ⟨rfl, rfl, rfl, by decide +kernel, rfl, by decide +kernel, by decide +kernel⟩
theorem ok_MValue (T : TxtR K mg) {k : Ks} (kk : KsOk K k) (c_Function : Mak P w K mg base 1 "Function" k.CF (SpU K (WFun k)) []) {f : Addr} {fd : FuncData} (F : Fun K "_value" "Machine._value" (inClass (topS 57) 9) f fd) : FnOk P w K mg base CX0 3 f fd ["self", "simple", "call"] (SpU K (WValue k)) := by
  refine F.ok sc_Machine__value (fun vs H Q E h => SL.spLen (fun s us R hW => by obtain ⟨x, c, e, u, s', rfl, _⟩ := hW; rfl) h) (fun cdv A outer s H vs Q E hr h => ?_)
  have hu := hu_of hr
  refine ⟨_, (pss_cons (ps_set (i := 3) sc_Machine__value.nd rfl (Or.inl rfl) (pe_ix (r := rIxT K) ix_tup (pv 1) pe_int (fun _ _ => rfl)))
      (pss_cons (ps_if (pt_cmpR op_eq (pv 3) pe_str (nomark _)) (pss_one (ps_ret (pe_ix (r := rIxT K) ix_tup (pv 1) pe_int (fun _ _ => rfl)))) pss_nil)
      (pss_cons (ps_if (pt_cmpR op_eq (pv 3) pe_str (nomark _)) (pss_one (ps_ret pe_non)) pss_nil)
      (pss_cons (ps_if (pt_cmpR op_eq (pv 3) pe_str (nomark _)) (pss_one (ps_ret (pe_fld (pv 2) rfl))) pss_nil)
      (pss_cons (ps_if (pt_cmpR op_eq (pv 3) pe_str (nomark _)) (pss_one ps_never) pss_nil)
      (pss_cons (ps_if (pt_cmpR op_eq (pv 3) pe_str (nomark _)) (pss_one (ps_ret (pe_mk c_Function hr (by decide) (by rfl) (pa_cons (pe_ix (r := rIxT K) ix_tup (pv 1) pe_int (fun _ _ => rfl)) (pa_cons (pe_ix (r := rIxT K) ix_tup (pv 1) pe_int (fun _ _ => rfl)) (pa_cons (pv 2) pa_nil)))))) pss_nil)
      (pss_one ps_never))))))), ?_⟩
  refine SL.body h _ fun s us R hW hl => ?_
  obtain ⟨x, c, e, u, s', rfl, hv, hq⟩ := hW
  change suS K _ s [some (.rf x), some e, some (.rf c), none] _
  try dsimp only [cxOf, Cx.nox]
  have kc := kk.c
  cases hv with
  | @word z =>
    walk_at "bu"
    exact hq
  | none =>
    walk_at "bu"
    exact hq
  | @me sr th tx wt n hc =>
    walk_at "bu"
    exact hq
  | @fn ps b =>
    walk_at "bu"
    refine ⟨_, _, _, _, rfl, by rw [List.getElem?_append_right (Nat.le_refl _), Nat.sub_self]; rfl, rfl, ?_⟩
    rw [List.set_append_right _ _ (Nat.le_refl _), Nat.sub_self]
    exact hq
theorem sc_Machine__values : FnScope ["self", "simples", "call", "found", "simple", "nearest"] ["self", "simples", "call"] (defScope (inClass (topS 57) 8)) := ⟨rfl, rfl, rfl, by decide +kernel, rfl, by decide +kernel, by decide +kernel⟩
theorem ok_MValues (T : TxtR K mg) {k : Ks} (kk : KsOk K k) (me_nearest : Met P w K mg base 1 k.CS "nearest" (SpU K (WNear k)) []) (me__value : Met P w K mg base 3 k.CM "_value" (SpU K (WValue k)) []) (c_latest : Cal P w K mg base 1 "latest" (SpU K WLatest) []) {f : Addr} {fd : FuncData} (F : Fun K "_values" "Machine._values" (inClass (topS 57) 8) f fd) : FnOk P w K mg base CX0 4 f fd ["self", "simples", "call"] (SpU K (WValues k)) := by
  refine F.ok sc_Machine__values (fun vs H Q E h => SL.spLen (fun s us R hW => by obtain ⟨x, c, m, es, ok, res, s', rfl, _⟩ := hW; rfl) h) (fun cdv A outer s H vs Q E hr h => ?_)
  have hu := hu_of hr
  refine ⟨_, (pss_cons (ps_set (i := 3) sc_Machine__values.nd rfl (Or.inl rfl) (pe_lst pa_nil))
      (pss_cons (ps_for PassesOwn.never rfl (pi_tup (pv 1)) (pg_name (i := 4) sc_Machine__values.nd rfl (Or.inl rfl)) (pss_one (ps_if (pt_cmpR op_eq (pe_ix (r := rIxT K) ix_tup (pv 4) pe_int (fun _ _ => rfl)) pe_str (nomark _)) (pss_cons (ps_set (i := 5) sc_Machine__values.nd rfl (Or.inl rfl) (pe_mt me_nearest hr (by decide) (pe_fld (pv 2) rfl) (pa_cons (pe_ix (r := rIxT K) ix_tup (pv 4) pe_int (fun _ _ => rfl)) pa_nil)))
      (pss_cons (ps_if (pt_cmpR op_isN1 (pv 5) pe_non (nomark _)) (pss_one (ps_ret pe_non)) pss_nil)
      (pss_one (ps_expr (pe_bm PySem.F.plainAttrs_list PySem.F.slot_list_append PySem.F.type_list_append mt_append (pv 3) (pa_cons (pe_c c_latest hr (by decide) (by rfl) (pa_cons (pe_dget hu (pe_fld (pv 5) rfl) (pe_ix (r := rIxT K) ix_tup (pv 4) pe_int (fun _ _ => rfl)) (fun _ _ => rfl)) pa_nil)) pa_nil)))))) (pss_one (ps_expr (pe_bm PySem.F.plainAttrs_list PySem.F.slot_list_append PySem.F.type_list_append mt_append (pv 3) (pa_cons (pe_mt me__value hr (by decide) (pv 0) (pa_cons (pv 4) (pa_cons (pv 2) pa_nil))) pa_nil)))))))
      (pss_one (ps_ret (pv 3))))), ?_⟩
  refine SL.body h _ fun s us R hW hl => ?_
  obtain ⟨x, c, m, es, ok, res, s', rfl, hm, hle, hv, hq⟩ := hW
  change suS K _ s [some (.rf x), some (.tup es), some (.rf c), none, none, none] _
  try dsimp only [cxOf, Cx.nox]
  have kc := kk.c
  have ks := kk.s
  have km := kk.m
  have lM := sizeLine_eq
  have hxl : x < s.length := (List.getElem?_eq_some_iff.mp hm).1
  have hm1 : MacAt k (s ++ [Ob.lst []]) x m := by
    unfold MacAt
    rw [List.getElem?_append_left hxl]
    exact hm
  have hf1 : (s ++ [Ob.lst []])[s.length]? = some (Ob.lst []) := by rw [List.getElem?_append_right (Nat.le_refl _), Nat.sub_self]; rfl
  walk_at "bu"
  generalize hf : s.length = f at hv hq hxl hf1
  generalize s ++ [Ob.lst []] = s1 at hv hm1 hf1
  clear hm hf
  have step : ∀ {s2 : Sto} {acc : List U} {v : U}, MacAt k s2 x m → s2[f]? = some (Ob.lst acc) → MacAt k (s2.set f (Ob.lst (acc ++ [v]))) x m ∧ (s2.set f (Ob.lst (acc ++ [v])))[f]? = some (Ob.lst (acc ++ [v])) := fun h1 h2 => ⟨by unfold MacAt; rw [List.getElem?_set_ne (by omega)]; exact h1, List.getElem?_set_self (List.getElem?_eq_some_iff.mp h2).1⟩
  refine SL.forI (SL.wtup ?_)
  walk_at "bu"
  refine ⟨fun i s2 g => ∃ acc, VsR k c f s2 (es.drop i) acc ok res s' ∧ acc.length = i ∧ MacAt k s2 x m ∧ s2[f]? = some (Ob.lst acc) ∧ ∃ y z, g = [some (.rf x), some (.tup es), some (.rf c), some (.rf f), y, z], ⟨[], hv, rfl, hm1, hf1, _, _, rfl⟩, fun _ _ _ _ => trivial, fun i d s2 g hd hJ => ?_, fun s2 g hJ => ?_⟩
  · obtain ⟨acc, hV, hal, hM, hF, y, z, rfl⟩ := hJ
    have hi := (List.getElem?_eq_some_iff.mp hd).1
    rw [List.drop_eq_getElem_cons hi] at hV
    rw [(List.getElem?_eq_some_iff.mp hd).2] at hV
    generalize hr0 : es.drop (i + 1) = rest at hV
    cases hV with
    | @name _ n _ _ v _ _ _ hn h2 =>
      obtain ⟨sr, th, tx, wt, nn, hc, j, i', o, p, ks', ls, l, h3, h4, h5, xs, t, h6⟩ := hn
      obtain ⟨_, _, _, _, g1, g2⟩ := h3.at
      obtain ⟨h4a, h4b⟩ := h4
      walk_at "bu"
      refine ⟨sr, n, j, _, rfl, h3, ?_⟩
      walk_at "bu"
      refine SL.lstAt_and hF ?_
      walk_at "bu"
      refine SL.dget ?_
      walk_at "bu"
      refine ⟨p, ks', ls, .inr n, _, rfl, h4b, rfl, h5, ?_⟩
      walk_at "bu"
      refine ⟨l, xs, t, v, rfl, h6, ?_⟩
      walk_at "bu"
      refine SL.append hF ⟨by omega, ?_⟩
      exact ⟨acc ++ [v], by rw [hr0]; exact h2, by rw [List.length_append, hal]; rfl, (step hM hF).1, (step hM hF).2, _, _, rfl⟩
    | @no _ n _ _ hn =>
      obtain ⟨sr, th, tx, wt, nn, hc, j, h3⟩ := hn
      obtain ⟨_, _, _, _, g1, g2⟩ := h3.at
      walk_at "bu"
      refine ⟨sr, n, j, _, rfl, h3, ?_⟩
      walk_at "bu"
      exact hq
    | @oth _ h t _ _ u _ _ s3 _ hne hv2 h2 =>
      have hM' : s2[x]? = some (Ob.ins k.CM macFs m.l) := hM
      walk_at "bu"
      rw [if_neg (by rw [decide_eq_false hne]; exact Bool.false_ne_true)]
      walk_at "bu"
      refine SL.lstAt_and hF ?_
      walk_at "bu"
      refine ⟨x, c, _, u, s3, rfl, hv2, ?_⟩
      walk_at "bu"
      refine SL.append (hv2.ext _ _ hF) ⟨by omega, ?_⟩
      have hM3 : MacAt k s3 x m := hv2.ext _ _ hM
      exact ⟨acc ++ [u], by rw [hr0]; exact h2, by rw [List.length_append, hal]; rfl, (step hM3 (hv2.ext _ _ hF)).1, (step hM3 (hv2.ext _ _ hF)).2, _, _, rfl⟩
  · obtain ⟨acc, hV, hal, hM, hF, y, z, rfl⟩ := hJ
    rw [List.drop_length] at hV
    cases hV
    walk_at "bu"
    exact hq
end
end SF
set_option Elab.async false
set_option linter.all false
set_option maxRecDepth 100000
set_option maxHeartbeats 4000000
/-! the machine over the store: tests, and what statements do with their values -/
namespace SF
open PySem PySem.Spec PyProof.Rows L2 G0 SL
open C8 (Cal Mak Met pe_c pe_mk pe_mt pe_mt0 pe_gc)
def toldU : U → Option Str
  | .non => some "none"
  | .str z => some z
  | _ => none
def WTold (s : Sto) (us : List U) (R : Sto → U → Prop) : Prop := ∃ v z, us = [v] ∧ toldU v = some z ∧ R s (.str z)
/-- a test holds, does not, or reads a name without a value -/
inductive HoldR (k : Ks) (s : Sto) (c : Nat) : U → Option Bool → Sto → Prop
  | same {a b u v uv vv s'} : VsR k c s.length (s ++ [Ob.lst []]) [a, b] [] true [u, v] s' → s'[s.length]? = some (Ob.lst [u, v]) → fl u = some uv → fl v = some vv → scal uv vv = true → HoldR k s c (.tup [.str "same", a, b]) (some (decide (uv = vv))) s'
  | no {a b res s'} : VsR k c s.length (s ++ [Ob.lst []]) [a, b] [] false res s' → HoldR k s c (.tup [.str "same", a, b]) none s'
def optBU : Option Bool → U
  | none => .non
  | some b => .bl b
def WHolds (k : Ks) (s : Sto) (us : List U) (R : Sto → U → Prop) : Prop := ∃ x c m t o s', us = [.rf x, t, .rf c] ∧ MacAt k s x m ∧ HoldR k s c t o s' ∧ R s' (optBU o)
def goingS (k : Ks) (s : Sto) (x : Nat) (m : Mv) (g : U) : Sto := s.set x (Ob.ins k.CM macFs { m with going := g }.l)
inductive SetR (k : Ks) (s : Sto) (x c : Nat) (n : Str) (v : U) : Sto → Prop
  | no {m} : MacAt k s x m → NameV k s c n none → SetR k s x c n v (goingS k s x m (.tup [.str "raise", .str "noname"]))
  | ok {m sr th tx wt nn j i s'} : MacAt k s x m → CalAt k s c sr th tx wt nn → NearR k s n j (.rf sr) (.rf i) → GiveR k s i n v m.steps s' → SetR k s x c n v s'
def WSet (k : Ks) (s : Sto) (us : List U) (R : Sto → U → Prop) : Prop := ∃ x c n v s', us = [.rf x, .str n, v, .rf c] ∧ SetR k s x c n v s' ∧ R s' .non
/-- a statement is done with the value of its right side -/
inductive FinR (k : Ks) (s : Sto) (x c : Nat) (v : U) : U → Sto → Prop
  | lt {m n r sr th tx wt nn s'} : MacAt k s x m → CalAt k s c sr th tx wt nn → GiveR k s sr n v m.steps s' → FinR k s x c v (.tup [.str "let", .str n, r]) s'
  | se {m n r s'} : MacAt k s x m → SetR k s x c n v s' → FinR k s x c v (.tup [.str "set", .str n, r]) s'
  | dd {r} : FinR k s x c v (.tup [.str "do", r]) s
  | pr {m r z ps} : MacAt k s x m → toldU v = some z → s[m.pr]? = some (Ob.lst ps) → ps.length < sizeLine → FinR k s x c v (.tup [.str "print", r]) (s.set m.pr (Ob.lst (ps ++ [.str z])))
  | rt {m r} : MacAt k s x m → FinR k s x c v (.tup [.str "return", r]) (goingS k s x m (.tup [.str "return", v]))
  | rs {m r} : MacAt k s x m → FinR k s x c v (.tup [.str "raise", r]) (goingS k s x m (.tup [.str "raise", v]))
def WFin (k : Ks) (s : Sto) (us : List U) (R : Sto → U → Prop) : Prop := ∃ x c v st s', us = [.rf x, st, v, .rf c] ∧ FinR k s x c v st s' ∧ R s' .non
section
variable {P : Program} {w : World} {K : PySem.W.Frag} {mg : Str → Option Value} {base : Heap}
set_option synthInstance.maxSize 100000
set_option synthInstance.maxHeartbeats 0
local macro_rules | `(tactic| walk_at "bvg2") => `(tactic| first
  | ((with_reducible refine And.intro (show List.length _ ≤ sizeLine from ?hz) ?_); (case hz => exact Nat.le_of_ble_eq_true rfl)) | ((with_reducible refine And.intro (show List.length _ < sizeLine from ?hz) ?_); (case hz => exact Nat.le_of_ble_eq_true rfl))
  | ((with_reducible refine RD.ifDT ?hd ?_); (case hd => first | decide +kernel | exact rfl)) | ((with_reducible refine RD.ifDF ?hd ?_); (case hd => first | decide +kernel | exact rfl))
  | ((with_reducible refine BV.catT ?hz ?_); (case hz => exact Nat.le_of_ble_eq_true rfl)) | ((with_reducible refine BV.catL ?hz ?_); (case hz => exact Nat.le_of_ble_eq_true rfl))
  | (with_reducible refine BV.ofN (BV.dNew ?_))
  | ((with_reducible apply BV.gtup); exact rfl)
  | ((with_reducible refine BV.vname ?hh ?_); (case hh => decide)) | ((with_reducible apply BV.vtup); exact rfl))
local macro_rules | `(tactic| walk_at "bvg1") => `(tactic| first
  | (with_reducible refine BV.strJoin ?_)
  | (with_reducible first | refine BV.i0 ?_ | refine BV.i0b ?_)
  | ((with_reducible apply BV.ixT); exact rfl) | (with_reducible refine BV.ixT BV.at0' ?_) | ((with_reducible apply BV.ixL); exact rfl)
  | ((with_reducible apply BV.lenO); exact rfl)
  | ((with_reducible refine BV.isi ?hh ?hp ?_); (case hh => decide +kernel); (case hp => exact rfl)) | ((with_reducible refine BV.isN ?hp ?_); (case hp => exact rfl)) | ((with_reducible refine BV.notN ?hp ?_); (case hp => exact rfl)))
local macro_rules | `(tactic| walk_at "bvg0") => `(tactic| first
  | ((with_reducible apply BV.var); exact rfl)
  | ((with_reducible apply BV.retO); exact rfl) | (with_reducible refine BV.ret ?_) | ((with_reducible apply BV.asgPop); exact rfl) | (with_reducible refine BV.asg ?_) | ((with_reducible apply BV.asgPopG); exact rfl) | (with_reducible refine BV.asgG ?_)
  | ((with_reducible apply BV.append); exact rfl) | ((with_reducible apply BV.extend); exact rfl) | ((with_reducible apply BV.augI); exact rfl) | ((with_reducible apply BV.truO); exact rfl) | (with_reducible refine BV.dropE ?_)
  | ((with_reducible refine BV.isiT2 ?h1 ?h2 ?_); (case h1 => decide +kernel); (case h2 => decide +kernel)) | ((with_reducible refine And.intro (show isPlainB _ = true from ?hz) ?_); (case hz => exact rfl)) | ((with_reducible refine BV.listVals ?hu ?_); (case hu => trivial)))
local macro_rules | `(tactic| walk_at "bvgu") => `(tactic| first
  | ((with_reducible apply SL.ixT); exact rfl) | (with_reducible refine SL.ixT SL.at0U ?_) | (with_reducible refine SL.ixT SL.at1U ?_)
  | ((with_reducible apply SL.fldAt); (case hs => assumption); (case kc => assumption); (case hf => decide); (case hu => exact rfl))
  | ((with_reducible apply SL.methAt); (case hs => assumption); (case hm => decide)))
local macro_rules | `(tactic| walk_at "bv1") => `(tactic| first | (with_reducible refine BVSt.mp ?_) | walk_at "bvg0" | walk_at "bvg1" | walk_at "bvg2")
local macro_rules | `(tactic| walk_at "bv") => `(tactic| repeat first | (with_reducible refine bvRun ?_) | (with_reducible refine BVSt.mp ?_) | walk_at "bvg0" | walk_at "bvg1" | walk_at "bvg2")
local macro_rules | `(tactic| walk_at "bu") => `(tactic| repeat first | (with_reducible refine bvRun ?_) | (with_reducible refine BVSt.mp ?_) | walk_at "bvgu" | walk_at "bvg0" | walk_at "bvg1" | walk_at "bvg2")
theorem sc_told : FnScope ["value"] ["value"] (defScope (topS 54)) := ⟨rfl, rfl, rfl, by decide +kernel, rfl, by decide +kernel, by decide +kernel⟩
theorem ok_told (T : TxtR K mg) {f : Addr} {fd : FuncData} (F : Fun K "told" "told" (topS 54) f fd) : FnOk P w K mg base CX0 1 f fd ["value"] (SpU K WTold) := by
  refine F.ok sc_told (fun vs H Q E h => SL.spLen (fun s us R hW => by obtain ⟨v, z, rfl, _⟩ := hW; rfl) h) (fun cdv A outer s H vs Q E hr h => ?_)
  have hu := hu_of hr
  refine ⟨_, (pss_cons (ps_if (pt_cmpR op_isN1 (pv 0) pe_non (nomark _)) (pss_one (ps_ret pe_str)) pss_nil)
      (pss_cons (ps_if (pt_val (pe_callB call_isi (by rfl) T.b_isinstance (by decide +kernel) (pa_cons (pv 0) (pa_cons (pe_bltn (v := .ty "str") (by rfl) T.b_str (by decide +kernel) rfl) pa_nil)))) (pss_one (ps_ret (pv 0))) pss_nil)
      (pss_one ps_never))), ?_⟩
  refine SL.body h _ fun s us R hW hl => ?_
  obtain ⟨v, z, rfl, hz, hq⟩ := hW
  change suS K _ s [some v] _
  try dsimp only [cxOf, Cx.nox]
  cases v with
  | non =>
    cases hz
    walk_at "bu"
    exact hq
  | str y =>
    cases hz
    walk_at "bu"
    refine SL.isi (b := .str _) (by decide) rfl (by rw [SL.Dr]) ?_
    walk_at "bu"
    exact hq
  | _ => cases hz
theorem sc_Machine__holds : FnScope ["self", "test", "call", "kind", "found", "first"] ["self", "test", "call"] (defScope (inClass (topS 57) 7)) := ⟨rfl, rfl, rfl, by decide +kernel, rfl, by decide +kernel, by decide +kernel⟩
theorem ok_MHolds (T : TxtR K mg) {k : Ks} (kk : KsOk K k) (me__values : Met P w K mg base 4 k.CM "_values" (SpU K (WValues k)) []) {f : Addr} {fd : FuncData} (F : Fun K "_holds" "Machine._holds" (inClass (topS 57) 7) f fd) : FnOk P w K mg base CX0 5 f fd ["self", "test", "call"] (SpU K (WHolds k)) := by
  refine F.ok sc_Machine__holds (fun vs H Q E h => SL.spLen (fun s us R hW => by obtain ⟨x, c, m, t, o, s', rfl, _⟩ := hW; rfl) h) (fun cdv A outer s H vs Q E hr h => ?_)
  have hu := hu_of hr
  refine ⟨_, (pss_cons (ps_set (i := 3) sc_Machine__holds.nd rfl (Or.inl rfl) (pe_ix (r := rIxT K) ix_tup (pv 1) pe_int (fun _ _ => rfl)))
      (pss_cons (ps_if (pt_cmpR op_eq (pv 3) pe_str (nomark _)) (pss_cons (ps_set (i := 4) sc_Machine__holds.nd rfl (Or.inl rfl) (pe_mt me__values hr (by decide) (pv 0) (pa_cons (pe_slice (r := rSlA K) sl_tupA (pv 1) (po_some pe_int) po_none) (pa_cons (pv 2) pa_nil))))
      (pss_one (ps_ret (pe_ifExp (pt_cmpR op_isN1 (pv 4) pe_non (nomark _)) pe_non (pe_cmpR op_eq (pe_ix (r := rIxL K) ix_list (pv 4) pe_int (fun _ _ => rfl)) (pe_ix (r := rIxL K) ix_list (pv 4) pe_int (fun _ _ => rfl)) (nomark _)))))) pss_nil)
      (pss_cons ps_never
      (pss_cons (ps_if (pt_cmpR op_isN1 (pv 5) pe_non (nomark _)) (pss_one (ps_ret pe_non)) pss_nil)
      (pss_cons (ps_if (pt_cmpR op_eq (pv 3) pe_str (nomark _)) (pss_one (ps_ret (pe_not (pv 5)))) pss_nil)
      (pss_one ps_never)))))), ?_⟩
  refine SL.body h _ fun s us R hW hl => ?_
  obtain ⟨x, c, m, t, o, s', rfl, hm, hh, hq⟩ := hW
  change suS K _ s [some (.rf x), some t, some (.rf c), none, none, none] _
  try dsimp only [cxOf, Cx.nox]
  have hm' : s[x]? = some (Ob.ins k.CM macFs m.l) := hm
  cases hh with
  | @same a b u v uv vv _ h1 h2 h3 h4 h5 =>
    walk_at "bu"
    rw [show BV.cutB [U.str (Str.ofString "same"), a, b] (some 1) none = [a, b] from cut_drop (n := 1) (Nat.le_of_ble_eq_true rfl)]
    refine ⟨x, c, m, _, true, _, s', rfl, hm, Nat.le_of_ble_eq_true rfl, h1, ?_⟩
    rw [if_pos rfl]
    walk_at "bu"
    refine SL.ixL h2 at0U ?_
    walk_at "bu"
    refine SL.ixL h2 at1U ?_
    refine SL.eqF h3 h4 h5 ?_
    exact hq
  | @no a b res _ h1 =>
    walk_at "bu"
    rw [show BV.cutB [U.str (Str.ofString "same"), a, b] (some 1) none = [a, b] from cut_drop (n := 1) (Nat.le_of_ble_eq_true rfl)]
    refine ⟨x, c, m, _, false, _, s', rfl, hm, Nat.le_of_ble_eq_true rfl, h1, ?_⟩
    rw [if_neg Bool.false_ne_true]
    walk_at "bu"
    exact hq
theorem sc_Machine__set : FnScope ["self", "name", "value", "call", "nearest"] ["self", "name", "value", "call"] (defScope (inClass (topS 57) 17)) := ⟨rfl, rfl, rfl, by decide +kernel, rfl, by decide +kernel, by decide +kernel⟩
theorem ok_MSet (T : TxtR K mg) {k : Ks} (kk : KsOk K k) (me_nearest : Met P w K mg base 1 k.CS "nearest" (SpU K (WNear k)) []) (me_give : Met P w K mg base 1 k.CS "give" (SpU K (WGive k)) []) (me__raise : Met P w K mg base 1 k.CM "_raise" (SpU K (WRaise k)) []) {f : Addr} {fd : FuncData} (F : Fun K "_set" "Machine._set" (inClass (topS 57) 17) f fd) : FnOk P w K mg base CX0 2 f fd ["self", "name", "value", "call"] (SpU K (WSet k)) := by
  refine F.ok sc_Machine__set (fun vs H Q E h => SL.spLen (fun s us R hW => by obtain ⟨x, c, n, v, s', rfl, _⟩ := hW; rfl) h) (fun cdv A outer s H vs Q E hr h => ?_)
  have hu := hu_of hr
  refine ⟨_, (pss_cons (ps_set (i := 4) sc_Machine__set.nd rfl (Or.inl rfl) (pe_mt me_nearest hr (by decide) (pe_fld (pv 3) rfl) (pa_cons (pv 1) pa_nil)))
      (pss_one (ps_if (pt_cmpR op_isN1 (pv 4) pe_non (nomark _)) (pss_one (ps_expr (pe_mt me__raise hr (by decide) (pv 0) (pa_cons pe_str pa_nil)))) (pss_one (ps_expr (pe_mt me_give hr (by decide) (pv 4) (pa_cons (pv 1) (pa_cons (pv 2) (pa_cons (pe_fld (pv 0) rfl) pa_nil))))))))), ?_⟩
  refine SL.body h _ fun s us R hW hl => ?_
  obtain ⟨x, c, n, v, s', rfl, hs, hq⟩ := hW
  change suS K _ s [some (.rf x), some (.str n), some v, some (.rf c), none] _
  try dsimp only [cxOf, Cx.nox]
  have kc := kk.c
  have km := kk.m
  cases hs with
  | @no m hm hn =>
    have hm' : s[x]? = some (Ob.ins k.CM macFs m.l) := hm
    obtain ⟨sr, th, tx, wt, nn, hc, j, h3⟩ := hn
    obtain ⟨_, _, _, _, g1, g2⟩ := h3.at
    walk_at "bu"
    refine ⟨sr, n, j, _, rfl, h3, ?_⟩
    walk_at "bu"
    refine ⟨x, _, m, rfl, hm, ?_⟩
    walk_at "bu"
    exact hq
  | @ok m sr th tx wt nn j i _ hm hc hn hg =>
    have hm' : s[x]? = some (Ob.ins k.CM macFs m.l) := hm
    obtain ⟨_, _, _, _, g1, g2⟩ := hn.at
    walk_at "bu"
    refine ⟨sr, n, j, _, rfl, hn, ?_⟩
    obtain ⟨_, g3⟩ : ∃ ds, s[i]? = some (Ob.ins k.CS surFs ds) := by
      cases hg with
      | old h1 => exact ⟨_, h1.1⟩
      | new h1 => exact ⟨_, h1.1⟩
    walk_at "bu"
    exact ⟨i, n, v, m.steps, s', rfl, hg, hq⟩
theorem sc_Machine__finish : FnScope ["self", "statement", "value", "call", "kind"] ["self", "statement", "value", "call"] (defScope (inClass (topS 57) 16)) := ⟨rfl, rfl, rfl, by decide +kernel, rfl, by decide +kernel, by decide +kernel⟩
theorem ok_MFin (T : TxtR K mg) {k : Ks} (kk : KsOk K k) (me_give : Met P w K mg base 1 k.CS "give" (SpU K (WGive k)) []) (me__set : Met P w K mg base 2 k.CM "_set" (SpU K (WSet k)) []) (c_told : Cal P w K mg base 1 "told" (SpU K WTold) []) {f : Addr} {fd : FuncData} (F : Fun K "_finish" "Machine._finish" (inClass (topS 57) 16) f fd) : FnOk P w K mg base CX0 3 f fd ["self", "statement", "value", "call"] (SpU K (WFin k)) := by
  refine F.ok sc_Machine__finish (fun vs H Q E h => SL.spLen (fun s us R hW => by obtain ⟨x, c, v, st, s', rfl, _⟩ := hW; rfl) h) (fun cdv A outer s H vs Q E hr h => ?_)
  have hu := hu_of hr
  refine ⟨_, (pss_cons (ps_set (i := 4) sc_Machine__finish.nd rfl (Or.inl rfl) (pe_ix (r := rIxT K) ix_tup (pv 1) pe_int (fun _ _ => rfl)))
      (pss_one (ps_if (pt_cmpR op_eq (pv 4) pe_str (nomark _)) (pss_one (ps_expr (pe_mt me_give hr (by decide) (pe_fld (pv 3) rfl) (pa_cons (pe_ix (r := rIxT K) ix_tup (pv 1) pe_int (fun _ _ => rfl)) (pa_cons (pv 2) (pa_cons (pe_fld (pv 0) rfl) pa_nil)))))) (pss_one (ps_if (pt_cmpR op_eq (pv 4) pe_str (nomark _)) (pss_one (ps_expr (pe_mt me__set hr (by decide) (pv 0) (pa_cons (pe_ix (r := rIxT K) ix_tup (pv 1) pe_int (fun _ _ => rfl)) (pa_cons (pv 2) (pa_cons (pv 3) pa_nil)))))) (pss_one (ps_if (pt_cmpR op_eq (pv 4) pe_str (nomark _)) (pss_one ps_never) (pss_one (ps_if (pt_cmpR op_eq (pv 4) pe_str (nomark _)) (pss_one (ps_expr (pe_bm PySem.F.plainAttrs_list PySem.F.slot_list_append PySem.F.type_list_append mt_append (pe_fld (pv 0) rfl) (pa_cons (pe_c c_told hr (by decide) (by rfl) (pa_cons (pv 2) pa_nil)) pa_nil)))) (pss_one (ps_if (pt_cmpR (r := rIn K false) op_in_seq (pv 4) (pe_tup (pa_cons pe_str (pa_cons pe_str pa_nil))) (by rfl)) (pss_one (ps_fld (pv 0) (pe_tup (pa_cons (pv 4) (pa_cons (pv 2) pa_nil))) rfl)) pss_nil))))))))))), ?_⟩
  refine SL.body h _ fun s us R hW hl => ?_
  obtain ⟨x, c, v, st, s', rfl, hs, hq⟩ := hW
  change suS K _ s [some (.rf x), some st, some v, some (.rf c), none] _
  try dsimp only [cxOf, Cx.nox]
  have kc := kk.c
  have km := kk.m
  cases hs with
  | @lt m n r sr th tx wt nn _ hm hc hg =>
    have hm' : s[x]? = some (Ob.ins k.CM macFs m.l) := hm
    obtain ⟨_, g3⟩ : ∃ ds, s[sr]? = some (Ob.ins k.CS surFs ds) := by
      cases hg with
      | old h1 => exact ⟨_, h1.1⟩
      | new h1 => exact ⟨_, h1.1⟩
    walk_at "bu"
    refine ⟨sr, n, v, m.steps, s', rfl, hg, ?_⟩
    walk_at "bu"
    exact hq
  | @se m n r _ hm hg =>
    have hm' : s[x]? = some (Ob.ins k.CM macFs m.l) := hm
    walk_at "bu"
    refine ⟨x, c, n, v, s', rfl, hg, ?_⟩
    walk_at "bu"
    exact hq
  | @dd r =>
    walk_at "bu"
    refine SL.inT (ss := ["return", "raise"]) ?_
    walk_at "bu"
    exact hq
  | @pr m r z ps hm hz hp hpl =>
    have hm' : s[x]? = some (Ob.ins k.CM macFs m.l) := hm
    walk_at "bu"
    refine SL.lstAt_and hp ?_
    walk_at "bu"
    refine ⟨v, z, rfl, hz, ?_⟩
    walk_at "bu"
    refine SL.append hp ⟨hpl, ?_⟩
    exact hq
  | @rt m r hm =>
    walk_at "bu"
    refine SL.inT (ss := ["return", "raise"]) ?_
    walk_at "bu"
    refine setAt (ds' := { m with going := .tup [.str "return", v] }.l) kk.m hm (by decide) (by decide) rfl ?_
    exact hq
  | @rs m r hm =>
    walk_at "bu"
    refine SL.inT (ss := ["return", "raise"]) ?_
    walk_at "bu"
    refine setAt (ds' := { m with going := .tup [.str "raise", v] }.l) kk.m hm (by decide) (by decide) rfl ?_
    exact hq
end
end SF
set_option Elab.async false
set_option linter.all false
set_option maxRecDepth 100000
set_option maxHeartbeats 4000000
/-! over the store: properties; a dict made of an empty dict by a comprehension -/
namespace SL
open PySem PySem.Spec PyProof.Rows L2 G0
section
variable {K : PySem.W.Frag} {s : Sto} {Γ : List (Option U)} {Post : Sto → U → Prop} {ta td : TE} {C : Addr}
/-- o.f, a property -/
theorem prop {Wp : Sto → List U → (Sto → U → Prop) → Prop} {E0 : XK} (h : suE K ta s Γ fun s1 x => ∃ n fs ds, x = .rf n ∧ s1[n]? = some (.ins C fs ds) ∧ Wp s1 [x] Post) : suE K (tProp C (SpU K Wp) [] E0 ta) s Γ Post := fun W α σ H Q E k =>
  h W α σ H _ E fun α1 s1 x v H1 p1 k1 E1 r1 => by
    obtain ⟨n, fs, ds, rfl, hs, pp⟩ := p1
    obtain ⟨a, dx, vs, rfl, h1, h2, h3, h4⟩ := ins_at E1.ok hs r1
    exact ⟨a, dx, _, rfl, h2, α1, s1, _, Post, E1.ok, ru_one r1, pp, fun s3 u v H3 pb ⟨α3, ok3, k3, r3⟩ => k α3 s3 u v H3 pb (k1.trans k3) (E1.step k3 ok3) r3⟩
theorem upd_back {H : Hp} {a D : Addr} {x y z : HO} (h : H a = some y) (n : D ≠ a) : upd (upd (upd H a x) D z) a y = upd H D z := by
  funext c
  unfold upd
  by_cases e : c = a
  · subst e; rw [if_pos rfl, if_neg (fun q => n q.symm)]; exact h.symm
  · by_cases q : c = D
    · subst q; rw [if_neg e, if_pos rfl, if_pos rfl]
    · rw [if_neg e, if_neg q, if_neg e, if_neg q]
/-- what gives the dict that is walked, whatever has been locked -/
def GivesD (K : PySem.W.Frag) (td : TE) (s : Sto) (Γ : List (Option U)) (n : Nat) : Prop := ∀ W α σ H, EnvU K W α s Γ σ H → ∃ a, α[n]? = some a ∧ ∀ od (Q : VK), Q (.ref a) (upd H a (.frz od (.dK []))) → td σ (upd H a (.frz od (.dK []))) Q
theorem gd_var {i n : Nat} (h : Γ[i]? = some (some (.rf n))) : GivesD K (tVar i) s Γ n := fun W α σ H E => by
  obtain ⟨v, h1, h2⟩ := E.loc i _ h
  obtain ⟨a, h3, rfl⟩ := ru_rf.mp h2
  exact ⟨a, h3, fun od Q q => ⟨_, h1, q⟩⟩
theorem gd_fld {i m n : Nat} {fs : List Str} {ds : List U} {f : Str} {all : List Str} (kc : KC K C all) (h : Γ[i]? = some (some (.rf m))) (hm : s[m]? = some (.ins C fs ds)) (hf : f ∈ all) (hu : fldU fs ds f = some (.rf n)) (hn : s[n]? = some (.dct [] [])) : GivesD K (tFld K (tVar i) f) s Γ n := fun W α σ H E => by
  obtain ⟨v, h1, h2⟩ := E.loc i _ h
  obtain ⟨a, dx, vs, rfl, h3, h4, h5, h6⟩ := ins_at E.ok hm h2
  obtain ⟨w, e1, e2⟩ := fld_at hu h6
  obtain ⟨d, h7, rfl⟩ := ru_rf.mp e2
  obtain ⟨vs2, h8, _, _⟩ := E.ok.ob n _ d hn h7
  have ne : a ≠ d := fun z => by rw [z, h8] at h4; cases h4
  exact ⟨d, h7, fun od Q q => ⟨_, h1, a, C, dx, _, _, rfl, by rw [upd_ne ne]; exact h4, kc.cl, kc.no f hf, e1, q⟩⟩
variable {g : TG} {tt : TT} {tk tv : TE} {ws : List Nat} {n : Nat}
theorem dc0 (hd : GivesD K td s Γ n) (hs : s[n]? = some (.dct [] [])) (q : Post (s ++ [.dct [] []]) (.rf s.length)) : suE K (tLockE (tDc (iKeys td) g tt tk tv ws)) s Γ Post := fun W α σ H Q E k => by
  obtain ⟨a, ha, ht⟩ := hd W α σ H E
  obtain ⟨vs, h1, h2, h3⟩ := E.ok.ob n _ a hs ha
  have h1 : H a = some (.dK []) := h1
  refine ⟨a, .dK [], h1, trivial, fun od => ?_⟩
  refine ht od _ ⟨a, od, rfl, .inl ⟨[], upd_same, fun D hD => ?_⟩⟩
  have ne : D ≠ a := fun z => by rw [z, upd_same] at hD; cases hD
  have hH : H D = none := by rw [upd_ne ne] at hD; exact hD
  refine ⟨fun i m H' => i = 0 ∧ H' = upd (upd H a (.frz od (.dK []))) D (.dK []), ⟨0, rfl, rfl⟩, fun i m H' ⟨hi, hH'⟩ => .inl ?_⟩
  subst hi hH'
  have l1 : upd (upd H a (.frz od (.dK []))) D (.dK []) a = some (.frz od (.dK [])) := by rw [upd_ne ne.symm, upd_same]
  refine ⟨⟨l1, Nat.le_refl _⟩, l1, ?_⟩
  rw [upd_back h1 ne]
  exact k (α ++ [D]) _ _ _ _ q (Ext.add hH) (E.step (Ext.add hH) (E.ok.add hH ⟨[], upd_same, rfl, ru_nil.mpr rfl⟩)) (ru_rf.mpr ⟨D, by rw [E.ok.len]; simp, rfl⟩)
theorem dc0i (hd : GivesD K td s Γ n) (hs : s[n]? = some (.dct [] [])) (q : Post (s ++ [.dct [] []]) (.rf s.length)) : suE K (tLockE (tDc (iItems td) g tt tk tv ws)) s Γ Post := fun W α σ H Q E k => by
  obtain ⟨a, ha, ht⟩ := hd W α σ H E
  obtain ⟨vs, h1, h2, h3⟩ := E.ok.ob n _ a hs ha
  have h1 : H a = some (.dK []) := h1
  refine ⟨a, .dK [], h1, trivial, fun od => ?_⟩
  refine ht od _ ⟨a, od, [], rfl, upd_same, fun D hD => ?_⟩
  have ne : D ≠ a := fun z => by rw [z, upd_same] at hD; cases hD
  have hH : H D = none := by rw [upd_ne ne] at hD; exact hD
  refine ⟨fun i m H' => i = 0 ∧ H' = upd (upd H a (.frz od (.dK []))) D (.dK []), ⟨0, rfl, rfl⟩, fun i m H' ⟨hi, hH'⟩ => .inl ?_⟩
  subst hi hH'
  have l1 : upd (upd H a (.frz od (.dK []))) D (.dK []) a = some (.frz od (.dK [])) := by rw [upd_ne ne.symm, upd_same]
  refine ⟨⟨l1, Nat.le_refl _⟩, l1, ?_⟩
  rw [upd_back h1 ne]
  exact k (α ++ [D]) _ _ _ _ q (Ext.add hH) (E.step (Ext.add hH) (E.ok.add hH ⟨[], upd_same, rfl, ru_nil.mpr rfl⟩)) (ru_rf.mpr ⟨D, by rw [E.ok.len]; simp, rfl⟩)
/-- a call with one number that the def's own row gives -/
theorem callD {i : Int} {t : TA} {Wp : Sto → List U → (Sto → U → Prop) → Prop} {E0 : XK} (h : suA K t s Γ fun s1 us => Wp s1 (us ++ [.int i]) Post) : suE K (tCall (SpU K Wp) [.int i] E0 t) s Γ Post := fun W α σ H Q Ev k =>
  h W α σ H _ Ev fun α1 s1 us vs H1 p1 k1 E1 r1 => ⟨α1, s1, us ++ [.int i], Post, E1.ok, ru_app r1 (ru_one (ru_int.mpr rfl)), p1, fun s2 u v H2 pb ⟨α2, ok2, k2, r2⟩ => k α2 s2 u v H2 pb (k1.trans k2) (E1.step k2 ok2) r2⟩
/-- isinstance(x, C), C an own class -/
def rIsC (C : Addr) : List V → Hp → VK → Prop := fun xs H Q => ∃ a dx fs, xs = [.ref a, .ref C] ∧ H a = some (.ins C dx fs) ∧ Q (.bl true) H
theorem call_isC' {X : Cx} (c : C8.InsC X.K C) : CallR X (.builtin "isinstance") (rIsC C) := C8.call_isC c
theorem isC {n : Nat} {fs : List Str} {ds : List U} (h : s[n]? = some (.ins C fs ds)) (q : Post s (.bl true)) : suRA K (rIsC C) [.rf n, .raw (.ref C)] s Post := fun W α Γ σ H vs Q E r k => by
  obtain ⟨v, r, rfl, a1, a2⟩ := ru_cons.mp r
  obtain ⟨v2, r2, rfl, b1, b2⟩ := ru_cons.mp a2
  obtain rfl := ru_nil.mp b2
  rw [ru_raw.mp b1]
  obtain ⟨a, dx, vs, rfl, h1, h2, h3, h4⟩ := ins_at E.ok h a1
  exact ⟨a, dx, _, rfl, h2, k α s _ _ H q Ext.refl E (ru_bl.mpr rfl)⟩
/-- len of a dict -/
theorem lenDk {n : Nat} {ks : List Key} {ds : List U} (hs : s[n]? = some (.dct ks ds)) (q : Post s (.int (ks.length : Nat))) : suRA K SF.rLenDk [.rf n] s Post := fun W α Γ σ H vs Q E r k => by
  obtain ⟨v, r', rfl, a1, a2⟩ := ru_cons.mp r
  obtain rfl := ru_nil.mp a2
  obtain ⟨a, vs, rfl, h1, h2, h3, h4⟩ := dct_at E.ok hs a1
  refine ⟨a, _, rfl, h2, ?_⟩
  rw [show (ks.zip vs).length = ks.length by rw [List.length_zip, h3, Nat.min_self]]
  exact k α s _ _ H q Ext.refl E (ru_int.mpr rfl)
/-- two equal lists, two equal tuples, of data -/
theorem eqLD (n : Nat) {ds : List BV.B} {x y : U} (hx : Dr s (.lst ds) x) (hy : Dr s (.lst ds) y) (hn : n ≤ 60) (hf : BV.finsB n ds = true) (q : Post s (.bl true)) : suR2 K (G3.rEqW K) x y s Post := fun W α Γ σ H v w Q E r1 r2 k => by
  obtain ⟨p, vs, rfl, _, h1, h2⟩ := BV.rp_lst.mp (dr_rp E.ok hx r1)
  obtain ⟨p', ws, rfl, _, h3, h4⟩ := BV.rp_lst.mp (dr_rp E.ok hy r2)
  exact ⟨n, hn, .inl (.inl ⟨p, p', vs, ws, rfl, rfl, SqL.of h1, SqL.of h3, BV.eqs_rp (fun _ z => z) (fun _ z => z) hf h2 h4⟩), k α s _ _ H q Ext.refl E (ru_bl.mpr rfl)⟩
theorem eqTD (n : Nat) {ds : List BV.B} {x y : U} (hx : Dr s (.tup ds) x) (hy : Dr s (.tup ds) y) (hn : n ≤ 60) (hf : BV.finsB n ds = true) (q : Post s (.bl true)) : suR2 K (G3.rEqW K) x y s Post := fun W α Γ σ H v w Q E r1 r2 k => by
  obtain ⟨p, vs, rfl, h1, h2⟩ := BV.rp_tup.mp (dr_rp E.ok hx r1)
  obtain ⟨p', ws, rfl, h3, h4⟩ := BV.rp_tup.mp (dr_rp E.ok hy r2)
  exact ⟨n, hn, .inr ⟨p, p', vs, ws, rfl, rfl, h1.sq, h3.sq, BV.eqs_rp (fun _ z => z) (fun _ z => z) hf h2 h4⟩, k α s _ _ H q Ext.refl E (ru_bl.mpr rfl)⟩
theorem dr_strs : ∀ {zs : List Str}, Drs s (zs.map BV.B.str) (zs.map U.str)
  | [] => by show Drs s [] []; rw [Drs]
  | z :: zs => by show Drs s (.str z :: zs.map BV.B.str) (.str z :: zs.map U.str); rw [Drs]; exact ⟨_, _, rfl, by rw [Dr], dr_strs⟩
theorem dr_lst {n : Nat} {zs : List Str} (h : s[n]? = some (.lst (zs.map U.str))) : Dr s (.lst (zs.map BV.B.str)) (.rf n) := by rw [Dr]; exact ⟨n, _, rfl, h, dr_strs⟩
theorem dr_tup {zs : List Str} : Dr s (.tup (zs.map BV.B.str)) (.tup (zs.map U.str)) := by rw [Dr]; exact ⟨_, rfl, dr_strs⟩
/-- a < b < c -/
theorem chain {r r' : R2} {tb tc : TE} (h : suE K ta s Γ fun s1 x => suE K tb s1 Γ fun s2 y => suR2 K r x y s2 fun s3 z => ∃ k, z = .bl k ∧ if k = true then suE K tc s3 Γ fun s4 u => suR2 K r' y u s4 Post else Post s3 (.bl false)) : suE K (tChain r r' ta tb tc) s Γ Post := fun W α σ H Q E k =>
  h W α σ H _ E fun α1 s1 x v H1 p1 k1 E1 r1 => p1 W α1 σ H1 _ E1 fun α2 s2 y u H2 p2 k2 E2 r2 => p2 W α2 Γ σ H2 v u _ E2 (r1.ext k2) r2 fun α3 s3 b z H3 pb k3 E3 r3 => by
    obtain ⟨c, rfl, pc⟩ := pb
    refine ⟨c, ru_bl.mp r3, ?_⟩
    cases c with
    | true =>
      rw [if_pos rfl] at pc ⊢
      exact pc W α3 σ H3 _ E3 fun α4 s4 d w' H4 p4 k4 E4 r4 => p4 W α4 Γ σ H4 u w' Q E4 ((r2.ext k3).ext k4) r4 fun α5 s5 e z' H5 pe k5 => k α5 s5 e z' H5 pe (k1.trans (k2.trans (k3.trans (k4.trans k5))))
    | false =>
      rw [if_neg Bool.false_ne_true] at pc ⊢
      exact k α3 s3 _ _ H3 pc (k1.trans (k2.trans k3)) E3 (ru_bl.mpr rfl)
instance st_chain {r r' : R2} {tb tc : TE} : BVSt (suE K (tChain r r' ta tb tc) s Γ Post) (suE K ta s Γ fun s1 x => suE K tb s1 Γ fun s2 y => suR2 K r x y s2 fun s3 z => ∃ k, z = .bl k ∧ if k = true then suE K tc s3 Γ fun s4 u => suR2 K r' y u s4 Post else Post s3 (.bl false)) := ⟨fun h => chain h⟩
/-- an expression that is never reached -/
theorem pe_never {X : Cx} {e : Expr} : PE X e (fun _ _ _ => False) := ⟨fun _ _ _ _ _ _ h => h.elim⟩
end
end SL
set_option Elab.async false
set_option linter.all false
set_option maxRecDepth 100000
set_option maxHeartbeats 4000000
/-! over the store: range(i, j, c), reversed(xs) -/
namespace SL
open PySem PySem.Spec PyProof.Rows L2 G0
section
variable {K : PySem.W.Frag} {s : Sto} {Γ : List (Option U)} {t : TA}
def rngC (i c : Int) (n : Nat) : List U := (List.range n).map fun k => .int (i + (k : Nat) * c)
theorem rngC_len {i c : Int} {n : Nat} : (rngC i c n).length = n := by unfold rngC; rw [List.length_map, List.length_range]
theorem rngC_at {i c : Int} {n k : Nat} (h : k < n) : (rngC i c n)[k]? = some (.int (i + (k : Nat) * c)) := by
  unfold rngC
  rw [List.getElem?_map, List.getElem?_range h]
  rfl
theorem wrng3 {Pl : Sto → (Sto → Prop) → List U → Prop} (h : suA K t s Γ fun s1 us => ∃ (i j c : Int) (n : Nat), us = [.int i, .int j, .int c] ∧ RgC i j c n ∧ Pl s1 (fun _ => True) (rngC i c n)) : suI K (iRng3 t) s Γ Pl := fun W α σ H R E q => by
  show t σ H _
  refine h W α σ H _ E fun α1 s1 us vs H1 p k1 E1 r1 => ?_
  obtain ⟨i, j, c, n, rfl, hn, p⟩ := p
  obtain ⟨v, r', rfl, a1, a2⟩ := ru_cons.mp r1
  obtain ⟨v2, r', rfl, a3, a4⟩ := ru_cons.mp a2
  obtain ⟨v3, r', rfl, a5, a6⟩ := ru_cons.mp a4
  obtain rfl := ru_nil.mp a6
  rw [ru_int.mp a1, ru_int.mp a3, ru_int.mp a5]
  refine ⟨i, j, c, n, rfl, hn, q α1 s1 H1 _ (rngC i c n) _ p k1 E1 fun α2 s2 H2 m e2 ok2 _ => ?_⟩
  rw [rngC_len]
  refine ⟨fun hi => hi, fun hi => hi, fun x H3 hy hi => ?_⟩
  obtain ⟨rfl, rfl⟩ := hy
  exact ⟨rfl, _, rngC_at hi, ru_int.mpr rfl⟩
theorem wrev {Pl : Sto → (Sto → Prop) → List U → Prop} (h : suA K t s Γ fun s1 us => ∃ n ds, us = [.rf n] ∧ s1[n]? = some (.lst ds) ∧ Pl s1 (fun s2 => s2[n]? = some (.lst ds)) ds.reverse) : suI K (iRev K t) s Γ Pl := fun W α σ H R E q => by
  show t σ H _
  refine h W α σ H _ E fun α1 s1 us vs H1 p k1 E1 r1 => ?_
  obtain ⟨n, ds, rfl, hs, p⟩ := p
  obtain ⟨v, r', rfl, a0, a2⟩ := ru_cons.mp r1
  obtain rfl := ru_nil.mp a2
  obtain ⟨a, vs, rfl, h1, h2, h3⟩ := lst_at E1.ok hs a0
  refine ⟨a, vs, rfl, SqL.of h2, q α1 s1 H1 _ ds.reverse _ p k1 E1 fun α2 s2 H2 i e2 ok2 hok => ?_⟩
  obtain ⟨ws, c1, c2⟩ := ok2.ob n _ a hok (e2.get h1)
  have a1 : SqL K H2 a ws := SqL.of c1
  have l1 := ru_len h3
  have l2 := ru_len c2
  rw [List.length_reverse]
  refine ⟨fun hi => ⟨by omega, ws, ws[vs.length - 1 - i]'(by omega), a1, List.getElem?_eq_getElem _⟩, fun hi => by show vs.length ≤ i; omega, fun x H3 hy hi => ?_⟩
  obtain ⟨rfl, hx⟩ := hy
  have hx := hx ws a1
  refine ⟨rfl, ds[ds.length - 1 - i]'(by omega), ?_, ?_⟩
  · rw [List.getElem?_reverse hi]
    exact List.getElem?_eq_getElem _
  · obtain ⟨w, b1, b2⟩ := ru_at c2 (i := ds.length - 1 - i) (List.getElem?_eq_getElem (by omega))
    rw [← l1] at hx
    rw [hx] at b1
    cases b1
    exact b2
/-- == of data: lists, tuples, flat things -/
theorem eqDD {Post : Sto → U → Prop} {b c : BV.B} {x y : U} (hb : Dr s b x) (hc : Dr s c y) (hx : SeqAt.shaped (BV.py b) = true) (hy : SeqAt.shaped (BV.py c) = true) (q : Post s (.bl (PyData.eqv (BV.py b) (BV.py c)))) : suR2 K (rEqD K) x y s Post := fun W α Γ σ H v u Q E r1 r2 k =>
  ⟨BV.py b, BV.py c, (dr_rp E.ok hb r1).dp (.inl hx), (dr_rp E.ok hc r2).dp (.inl hy), hx, hy, k α s _ _ H q Ext.refl E (ru_bl.mpr rfl)⟩
end
end SL
set_option Elab.async false
set_option linter.all false
set_option maxRecDepth 100000
set_option maxHeartbeats 4000000
/-! over the store: enumerate, max -/
namespace SL
open PySem PySem.Spec PyProof.Rows L2 G0
section
variable {K : PySem.W.Frag} {s : Sto} {Γ : List (Option U)} {Post P : Sto → U → Prop} {te ta tb tc td ty tv : TE} {t tr : TA} {t1 t2 : TS} {e : EU} {g : TG} {gs : TGs} {α α' : AM} {H H' : Hp} {W : WU} {σ : L2.St}
/-- what a loop goes through, where each item is made anew -/
def suJ (K : PySem.W.Frag) (wi : TI) (s : Sto) (Γ : List (Option U)) (Pl : Sto → (Sto → Prop) → List U → Prop) : Prop := ∀ (W : WU) (α : AM) (σ : L2.St) (H : Hp) (R : It → Hp → Prop), EnvU K W α s Γ σ H → (∀ (α1 : AM) (s1 : Sto) (H1 : Hp) (ok : Sto → Prop) (ds : List U) (J : It), Pl s1 ok ds → Ext α H α1 H1 → EnvU K W α1 s1 Γ σ H1 →
    (∀ (α2 : AM) (s2 : Sto) (H2 : Hp) (i : Nat), Ext α1 H1 α2 H2 → SOk K α2 s2 H2 → ok s2 → (i < ds.length → J.go i H2) ∧ (ds.length ≤ i → J.stop i H2) ∧ ∀ x H3, J.yld i H2 x H3 → i < ds.length → Ext α2 H2 α2 H3 ∧ SOk K α2 s2 H3 ∧ ∃ d, ds[i]? = some d ∧ RpU K α2 H3 d x) → R J H1) → wi σ H R
theorem forJ {wi : TI} (h : suJ K wi s Γ fun s1 ok ds => ∃ I : Nat → Sto → List (Option U) → Prop, I 0 s1 Γ ∧ (∀ k s2 Γ', I k s2 Γ' → ok s2) ∧ (∀ k d s2 Γ', ds[k]? = some d → I k s2 Γ' → suG K g d s2 Γ' fun s3 g' => suS K t1 s3 g' ⟨I (k + 1), e.R, e.N, I (k + 1)⟩) ∧ ∀ s2 Γ', I ds.length s2 Γ' → e.N s2 Γ') : suS K (tFor wi g t1) s Γ e := fun W α σ H D E q1 q2 q3 q4 => by
  unfold tFor
  refine h W α σ H _ E fun α1 s1 H1 ok ds J p k1 E1 wk => ?_
  obtain ⟨I, i0, iok, step, done⟩ := p
  refine ⟨fun i m σ' H' => m = ds.length - i ∧ i ≤ ds.length ∧ ∃ α2 s2 Γ', I i s2 Γ' ∧ EnvU K ⟨α1, H1⟩ α2 s2 Γ' σ' H', ⟨ds.length, rfl, Nat.zero_le _, α1, s1, Γ, i0, E1.base⟩, fun i m σ' H' hI => ?_⟩
  obtain ⟨rfl, hi, α2, s2, Γ', hI, E'⟩ := hI
  obtain ⟨w1, w2, w3⟩ := wk α2 s2 H' i E'.ext E'.ok (iok i s2 Γ' hI)
  rcases Nat.lt_or_ge i ds.length with hlt | hge
  · refine .inr ⟨w1 hlt, fun σ2 H2 => ∃ α3 s3 Γ3, I (i + 1) s3 Γ3 ∧ EnvU K ⟨α1, H1⟩ α3 s3 Γ3 σ2 H2, fun σ2 H2 ⟨α3, s3, Γ3, j, E3⟩ => ⟨_, by omega, rfl, hlt, α3, s3, Γ3, j, E3⟩, fun x H2 hy => ?_⟩
    obtain ⟨x1, x2, d, hd, rd⟩ := w3 x H2 hy hlt
    have E' := E'.step x1 x2
    exact step i d s2 Γ' hd hI ⟨α1, H1⟩ α2 σ' H2 x _ E' rd fun α3 s3 Γ3 σ3 H3 b3 E3 => b3 ⟨α1, H1⟩ α3 σ3 H3 _ E3 (fun α4 s4 Γ4 σ4 H4 n E4 => ⟨α4, s4, Γ4, n, E4⟩) (fun s4 u v H4 r f => q2 s4 u v H4 r (f.back E1.ext)) (fun α4 s4 Γ4 σ4 H4 n E4 => q1 α4 s4 Γ4 σ4 H4 n (E4.back E1.ext)) fun α4 s4 Γ4 σ4 H4 n E4 => ⟨α4, s4, Γ4, n, E4⟩
  · have e1 : i = ds.length := by omega
    subst e1
    exact .inl ⟨w2 hge, q1 α2 s2 Γ' σ' H' (done s2 Γ' hI) (E'.back E1.ext)⟩
def numU (xs : List U) : List U := xs.zipIdx.map fun q => .tup [.int (q.2 : Nat), q.1]
/-- over enumerate(a tuple) -/
theorem wenum {Pl : Sto → (Sto → Prop) → List U → Prop} (h : suA K t s Γ fun s1 bs => ∃ ds, bs = [.tup ds] ∧ Pl s1 (fun _ => True) (numU ds)) : suJ K (G13.iEnumT K t) s Γ Pl := fun W α σ H R E q =>
  h W α σ H _ E fun α1 s1 bs vs H1 p k1 E1 r1 => by
    obtain ⟨ds, rfl, p⟩ := p
    obtain ⟨v, r, rfl, b1, b2⟩ := ru_cons.mp r1
    obtain rfl := ru_nil.mp b2
    obtain ⟨a, vs, rfl, h1, h2⟩ := ru_tup.mp b1
    have nl : (numU ds).length = ds.length := by unfold numU; rw [List.length_map, List.length_zipIdx]
    refine ⟨a, vs, rfl, h1.sq, q α1 s1 H1 _ (numU ds) _ p k1 E1 fun α2 s2 H2 i e2 ok2 _ => ?_⟩
    have a1 := (h1.ext e2).sq
    have a2 := h2.ext e2
    rw [nl]
    refine ⟨fun hi => ⟨vs, vs[i]'(by rw [← ru_len a2]; exact hi), a1, List.getElem?_eq_getElem _⟩, fun hi => ⟨vs, a1, by rw [← ru_len a2]; exact hi⟩, fun x H3 hy hi => ?_⟩
    obtain ⟨T, x, rfl, hT, rfl, hx⟩ := hy
    obtain ⟨w, b1, b2⟩ := ru_at a2 (List.getElem?_eq_getElem hi)
    rw [hx vs a1] at b1
    cases b1
    refine ⟨Ext.put hT, ok2.nw hT, .tup [.int (i : Nat), ds[i]], ?_, ru_tup.mpr ⟨T, _, rfl, .inl ⟨upd_same, ok2.off hT⟩, ru_cons.mpr ⟨_, _, rfl, ru_int.mpr rfl, ru_one (b2.ext (Ext.put hT))⟩⟩⟩
    unfold numU
    rw [List.getElem?_map, List.getElem?_zipIdx, List.getElem?_eq_getElem hi]
    simp
theorem max2 {i j : Int} (q : Post s (.int (if j > i then j else i))) : suRA K (fun xs H Q => ∃ i j, xs = [V.int i, .int j] ∧ Q (.int (if j > i then j else i)) H) [.int i, .int j] s Post := fun W α Γ σ H vs Q E r k => by
  obtain ⟨v, r, rfl, a1, a2⟩ := ru_cons.mp r
  obtain ⟨v2, r2, rfl, b1, b2⟩ := ru_cons.mp a2
  obtain rfl := ru_nil.mp b2
  exact ⟨i, j, by rw [ru_int.mp a1, ru_int.mp b1], k α s _ _ H q Ext.refl E (ru_int.mpr rfl)⟩
instance st_max2 {i j : Int} : BVSt (suRA K (fun xs H Q => ∃ i j, xs = [V.int i, .int j] ∧ Q (.int (if j > i then j else i)) H) [.int i, .int j] s Post) (Post s (.int (if j > i then j else i))) := ⟨fun q => max2 q⟩
end
end SL
set_option Elab.async false
set_option linter.all false
set_option maxRecDepth 100000
set_option maxHeartbeats 4000000
/-! the machine over the store: a call of a function begins -/
namespace SF
open PySem PySem.Spec PyProof.Rows L2 G0 SL
open C8 (Cal Mak Met pe_c pe_mk pe_mt pe_mt0 pe_gc)
/-- one more level -/
def pushS (k : Ks) (s : Sto) (lv : Nat) (ls : List U) (d : List U) : Sto := (s ++ [Ob.ins k.CL lvlFs d]).set lv (Ob.lst (ls ++ [.rf s.length]))
def nonameU : U := .tup [.str "raise", .str "noname"]
def atD (vs : List U) (i : Nat) : U := (vs[i]?).getD .non
theorem new_lv {k : Ks} {s : Sto} {lv : Nat} {ls d : List U} (h : s[lv]? = some (Ob.lst ls)) : (s ++ [Ob.ins k.CL [] []])[s.length]? = some (Ob.ins k.CL [] []) ∧ ((s ++ [Ob.ins k.CL [] []]).set s.length (Ob.ins k.CL lvlFs d))[lv]? = some (Ob.lst ls) ∧ ((s ++ [Ob.ins k.CL [] []]).set s.length (Ob.ins k.CL lvlFs d)).set lv (Ob.lst (ls ++ [.rf s.length])) = pushS k s lv ls d := by
  have e : (s ++ [Ob.ins k.CL [] []]).set s.length (Ob.ins k.CL lvlFs d) = s ++ [Ob.ins k.CL lvlFs d] := by
    rw [List.set_append_right _ _ (Nat.le_refl _), Nat.sub_self]
    rfl
  refine ⟨by rw [List.getElem?_append_right (Nat.le_refl _), Nat.sub_self]; rfl, ?_, by rw [e]; rfl⟩
  rw [e, List.getElem?_append_left (List.getElem?_eq_some_iff.mp h).1]
  exact h
theorem macSet {K : PySem.W.Frag} {k : Ks} {s : Sto} {x : Nat} {m m' : Mv} {f : Str} {y : U} {P : Sto → Prop} (km : KC K k.CM macFs) (h : MacAt k s x m) (hf : f ∈ macFs) (hp : putFU f y macFs m.l = (macFs, m'.l)) (q : P (s.set x (Ob.ins k.CM macFs m'.l))) : SetAt K s (.rf x) f y P := setAt km h hf (by decide) hp q
theorem newAt {s : Sto} {b : Ob} : (s ++ [b])[s.length]? = some b := by simp
theorem kpApp {s l : Sto} {i : Nat} {o : Ob} (h : s[i]? = some o) : (s ++ l)[i]? = some o := by rw [List.getElem?_append_left (List.getElem?_eq_some_iff.mp h).1]; exact h
/-- the params get their values; at x the machine, at b the call, at t the list of the things -/
inductive GivesR (k : Ks) (x b sr t : Nat) (m : Mv) (vs : List U) (th tx wt : U) (num : Int) : Nat → List Str → Sto → Sto → Prop
  | nil {i s} : GivesR k x b sr t m vs th tx wt num i [] s s
  | cons {i p ps s s1 s'} : MacAt k s x m → CalAt k s b sr th tx wt num → s[t]? = some (Ob.lst vs) → GiveR k s sr p (atD vs i) m.steps s1 → GivesR k x b sr t m vs th tx wt num (i + 1) ps s1 s' → GivesR k x b sr t m vs th tx wt num i (p :: ps) s s'
inductive EnterR (k : Ks) (s : Sto) (x b t : Nat) (ps : List Str) (blk : U) : Sto → Prop
  | mk {m sr th tx wt num vs s1 ls} : GivesR k x b sr t m vs th tx wt num 0 ps s s1 → MacAt k s1 x m → CalAt k s1 b sr th tx wt num → (s1.set x (Ob.ins k.CM macFs { m with deep := if num > m.deep then num else m.deep }.l))[m.lv]? = some (Ob.lst ls) → ls.length < sizeLine →
      EnterR k s x b t ps blk (pushS k (s1.set x (Ob.ins k.CM macFs { m with deep := if num > m.deep then num else m.deep }.l)) m.lv ls [.str "call", blk, .rf b, .non, .int 0])
def WEnter (k : Ks) (s : Sto) (us : List U) (R : Sto → U → Prop) : Prop := ∃ x b t ps blk s', us = [.rf x, .rf b, .tup (ps.map U.str), blk, .rf t] ∧ (∃ vs, s[t]? = some (Ob.lst vs)) ∧ EnterR k s x b t ps blk s' ∧ R s' .non
/-- what a call of a function is made with -/
def calO (k : Ks) (n sr0 : Nat) (th tx st : U) (num : Int) : List Ob := [.ins k.CS surFs [.rf sr0, .rf (n + 1)], .dct [] [], .ins k.CC calFs [.rf n, th, tx, st, .int num]]
inductive CallFR (k : Ks) (s : Sto) (x c f t : Nat) (st : U) : Sto → Prop
  | mk {m ps blk c0 sr0 th0 tx0 wt0 n0 sr th tx wt n s'} : MacAt k s x m → s[f]? = some (Ob.ins k.CF funFs [.tup (ps.map U.str), blk, .rf c0]) → CalAt k s c0 sr0 th0 tx0 wt0 n0 → CalAt k s c sr th tx wt n → EnterR k (s ++ calO k s.length sr0 th0 tx0 st (n + 1)) x (s.length + 2) t ps blk s' → CallFR k s x c f t st s'
def WCallF (k : Ks) (s : Sto) (us : List U) (R : Sto → U → Prop) : Prop := ∃ x c f t st s', us = [.rf x, st, .rf f, .rf t, .rf c] ∧ (∃ vs, s[t]? = some (Ob.lst vs)) ∧ CallFR k s x c f t st s' ∧ R s' .non
section
variable {P : Program} {w : World} {K : PySem.W.Frag} {mg : Str → Option Value} {base : Heap}
set_option synthInstance.maxSize 100000
set_option synthInstance.maxHeartbeats 0
local macro_rules | `(tactic| walk_at "bvg2") => `(tactic| first
  | ((with_reducible refine And.intro (show List.length _ ≤ sizeLine from ?hz) ?_); (case hz => exact Nat.le_of_ble_eq_true rfl)) | ((with_reducible refine And.intro (show List.length _ < sizeLine from ?hz) ?_); (case hz => exact Nat.le_of_ble_eq_true rfl))
  | ((with_reducible refine RD.ifDT ?hd ?_); (case hd => first | decide +kernel | exact rfl)) | ((with_reducible refine RD.ifDF ?hd ?_); (case hd => first | decide +kernel | exact rfl))
  | ((with_reducible refine BV.catT ?hz ?_); (case hz => exact Nat.le_of_ble_eq_true rfl)) | ((with_reducible refine BV.catL ?hz ?_); (case hz => exact Nat.le_of_ble_eq_true rfl))
  | (with_reducible refine BV.ofN (BV.dNew ?_))
  | ((with_reducible apply BV.gtup); exact rfl)
  | ((with_reducible refine BV.vname ?hh ?_); (case hh => decide)) | ((with_reducible apply BV.vtup); exact rfl))
local macro_rules | `(tactic| walk_at "bvg1") => `(tactic| first
  | (with_reducible refine BV.strJoin ?_)
  | (with_reducible first | refine BV.i0 ?_ | refine BV.i0b ?_)
  | ((with_reducible apply BV.ixT); exact rfl) | (with_reducible refine BV.ixT BV.at0' ?_) | ((with_reducible apply BV.ixL); exact rfl)
  | ((with_reducible apply BV.lenO); exact rfl)
  | ((with_reducible refine BV.isi ?hh ?hp ?_); (case hh => decide +kernel); (case hp => exact rfl)) | ((with_reducible refine BV.isN ?hp ?_); (case hp => exact rfl)) | ((with_reducible refine BV.notN ?hp ?_); (case hp => exact rfl)))
local macro_rules | `(tactic| walk_at "bvg0") => `(tactic| first
  | ((with_reducible apply BV.var); exact rfl)
  | ((with_reducible apply BV.retO); exact rfl) | (with_reducible refine BV.ret ?_) | ((with_reducible apply BV.asgPop); exact rfl) | (with_reducible refine BV.asg ?_) | ((with_reducible apply BV.asgPopG); exact rfl) | (with_reducible refine BV.asgG ?_)
  | ((with_reducible apply BV.append); exact rfl) | ((with_reducible apply BV.extend); exact rfl) | ((with_reducible apply BV.augI); exact rfl) | ((with_reducible apply BV.truO); exact rfl) | (with_reducible refine BV.dropE ?_)
  | ((with_reducible refine BV.isiT2 ?h1 ?h2 ?_); (case h1 => decide +kernel); (case h2 => decide +kernel)) | ((with_reducible refine And.intro (show isPlainB _ = true from ?hz) ?_); (case hz => exact rfl)) | ((with_reducible refine BV.listVals ?hu ?_); (case hu => trivial)))
local macro_rules | `(tactic| walk_at "bvgu") => `(tactic| first
  | ((with_reducible apply SL.ixT); exact rfl) | (with_reducible refine SL.ixT SL.at0U ?_) | (with_reducible refine SL.ixT SL.at1U ?_)
  | ((with_reducible apply SL.fldAt); (case hs => assumption); (case kc => assumption); (case hf => decide); (case hu => exact rfl))
  | ((with_reducible apply SL.methAt); (case hs => assumption); (case hm => decide)))
local macro_rules | `(tactic| walk_at "bv1") => `(tactic| first | (with_reducible refine BVSt.mp ?_) | walk_at "bvg0" | walk_at "bvg1" | walk_at "bvg2")
local macro_rules | `(tactic| walk_at "bv") => `(tactic| repeat first | (with_reducible refine bvRun ?_) | (with_reducible refine BVSt.mp ?_) | walk_at "bvg0" | walk_at "bvg1" | walk_at "bvg2")
local macro_rules | `(tactic| walk_at "bu") => `(tactic| repeat first | (with_reducible refine bvRun ?_) | (with_reducible refine BVSt.mp ?_) | walk_at "bvgu" | walk_at "bvg0" | walk_at "bvg1" | walk_at "bvg2")
theorem numU_at {ps : List Str} {i : Nat} {d : U} (h : (numU (ps.map U.str))[i]? = some d) : ∃ p, ps[i]? = some p ∧ d = .tup [.int (i : Nat), .str p] := by
  unfold numU at h
  rw [List.getElem?_map, List.getElem?_zipIdx, List.getElem?_map] at h
  cases e : ps[i]? with
  | none => rw [e] at h; cases h
  | some p =>
    rw [e] at h
    simp at h
    exact ⟨p, rfl, h.symm⟩
theorem sc_Machine__enter : FnScope ["self", "begun", "params", "block", "things", "at", "param", "value"] ["self", "begun", "params", "block", "things"] (defScope (inClass (topS 57) 15)) := ⟨rfl, rfl, rfl, by decide +kernel, rfl, by decide +kernel, by decide +kernel⟩
theorem ok_MEnter (T : TxtR K mg) {k : Ks} (kk : KsOk K k) (me_give : Met P w K mg base 1 k.CS "give" (SpU K (WGive k)) []) (c_Level : Mak P w K mg base 1 "Level" k.CL (SpU K (WLvl k)) []) {f : Addr} {fd : FuncData} (F : Fun K "_enter" "Machine._enter" (inClass (topS 57) 15) f fd) : FnOk P w K mg base CX0 3 f fd ["self", "begun", "params", "block", "things"] (SpU K (WEnter k)) := by
  refine F.ok sc_Machine__enter (fun vs H Q E h => SL.spLen (fun s us R hW => by obtain ⟨x, b, t, ps, blk, s', rfl, _⟩ := hW; rfl) h) (fun cdv A outer s H vs Q E hr h => ?_)
  have hu := hu_of hr
  refine ⟨_, (pss_cons (ps_for PassesOwn.never rfl (G13.pi_enumT (by rfl) T.b_enumerate (pa_cons (pv 2) pa_nil)) (pg_tup rfl (pgs_cons (pg_name (i := 5) sc_Machine__enter.nd rfl (Or.inl rfl)) (pgs_cons (pg_name (i := 6) sc_Machine__enter.nd rfl (Or.inl rfl)) pgs_nil))) (pss_cons (ps_set (i := 7) sc_Machine__enter.nd rfl (Or.inl rfl) (pe_ifExp (pt_cmpR op_lt (pv 5) (pe_callB (r := SF.rLenQ K) call_lenQ (by rfl) T.b_len PySem.boot_len (pa_cons (pv 4) pa_nil)) (nomark _)) (pe_ix (r := rIxL K) ix_list (pv 4) (pv 5) (fun _ _ => rfl)) pe_non))
      (pss_one (ps_expr (pe_mt me_give hr (by decide) (pe_fld (pv 1) rfl) (pa_cons (pv 6) (pa_cons (pv 7) (pa_cons (pe_fld (pv 0) rfl) pa_nil))))))))
      (pss_cons (ps_fld (pv 0) (pe_callB (call_max2 rfl) (by rfl) T.b_max (by decide +kernel) (pa_cons (pe_fld (pv 0) rfl) (pa_cons (pe_fld (pv 1) rfl) pa_nil))) rfl)
      (pss_one (ps_expr (pe_bm PySem.F.plainAttrs_list PySem.F.slot_list_append PySem.F.type_list_append mt_append (pe_fld (pv 0) rfl) (pa_cons (pe_mk c_Level hr (by decide) (by rfl) (pa_cons pe_str (pa_cons (pv 3) (pa_cons (pv 1) (pa_cons pe_non pa_nil))))) pa_nil)))))), ?_⟩
  refine SL.body h _ fun s us R hW hl => ?_
  obtain ⟨x, b, t, ps, blk, s', rfl, ⟨vs0, hvs0⟩, hh, hq⟩ := hW
  change suS K _ s [some (.rf x), some (.rf b), some (.tup (ps.map U.str)), some blk, some (.rf t), none, none, none] _
  try dsimp only [cxOf, Cx.nox]
  have kc := kk.c
  have km := kk.m
  cases hh with
  | @mk m sr th tx wt num vs s1 ls h1 h2 h3 h4 h5 =>
    walk_at "bu"
    refine SL.forJ (SL.wenum ?_)
    walk_at "bu"
    refine ⟨_, rfl, fun i s2 g => GivesR k x b sr t m vs th tx wt num i (ps.drop i) s2 s1 ∧ ∃ y z v, g = [some (.rf x), some (.rf b), some (.tup (ps.map U.str)), some blk, some (.rf t), y, z, v], ⟨h1, _, _, _, rfl⟩, fun _ _ _ _ => trivial, fun i d s2 g hd hJ => ?_, fun s2 g hJ => ?_⟩
    · obtain ⟨hG, y, z, v, rfl⟩ := hJ
      obtain ⟨p, hp, rfl⟩ := numU_at hd
      have hi := (List.getElem?_eq_some_iff.mp hp).1
      rw [List.drop_eq_getElem_cons hi, (List.getElem?_eq_some_iff.mp hp).2] at hG
      generalize hr0 : ps.drop (i + 1) = rest at hG
      cases hG with
      | @cons _ _ _ _ s3 _ g1 g2 g3 g4 g5 =>
        have g1' : s2[x]? = some (Ob.ins k.CM macFs m.l) := g1
        obtain ⟨_, g6⟩ : ∃ ds, s2[sr]? = some (Ob.ins k.CS surFs ds) := by
          cases g4 with
          | old q => exact ⟨_, q.1⟩
          | new q => exact ⟨_, q.1⟩
        refine SL.gtup rfl ?_
        walk_at "bu"
        refine SL.lenL g3 ?_
        dsimp only [List.set]
        walk_at "bu"
        have nx : GivesR k x b sr t m vs th tx wt num (i + 1) (ps.drop (i + 1)) s3 s1 := by rw [hr0]; exact g5
        by_cases hlt : i < vs.length
        · rw [if_pos (decide_eq_true (by omega))]
          have e1 : atD vs i = vs[i] := by unfold atD; rw [List.getElem?_eq_getElem hlt]; rfl
          walk_at "bu"
          refine SL.ixL g3 (atN (List.getElem?_eq_getElem hlt)) ?_
          walk_at "bu"
          refine ⟨sr, p, _, m.steps, s3, rfl, by rw [← e1]; exact g4, ?_⟩
          walk_at "bu"
          exact ⟨nx, _, _, _, rfl⟩
        · rw [if_neg (by rw [decide_eq_false (by omega)]; exact Bool.false_ne_true)]
          have e1 : atD vs i = .non := by unfold atD; rw [List.getElem?_eq_none (by omega)]; rfl
          walk_at "bu"
          refine ⟨sr, p, _, m.steps, s3, rfl, by rw [← e1]; exact g4, ?_⟩
          walk_at "bu"
          exact ⟨nx, _, _, _, rfl⟩
    · obtain ⟨hG, y, z, v, rfl⟩ := hJ
      rw [show (numU (ps.map U.str)).length = ps.length by unfold numU; simp] at hG
      rw [List.drop_length] at hG
      cases hG
      walk_at "bu"
      have h2' : s1[x]? = some (Ob.ins k.CM macFs m.l) := h2
      obtain ⟨n1, n2, n3⟩ := new_lv (k := k) (d := [.str "call", blk, .rf b, .non, .int 0]) h4
      refine macSet (m' := { m with deep := if num > m.deep then num else m.deep }) kk.m h2 (by decide) rfl ?_
      have hx1 : (s1.set x (Ob.ins k.CM macFs { m with deep := if num > m.deep then num else m.deep }.l))[x]? = some (Ob.ins k.CM macFs { m with deep := if num > m.deep then num else m.deep }.l) := List.getElem?_set_self (List.getElem?_eq_some_iff.mp h2').1
      generalize s1.set x (Ob.ins k.CM macFs { m with deep := if num > m.deep then num else m.deep }.l) = s4 at h4 n1 n2 n3 hx1 hq ⊢
      walk_at "bu"
      refine SL.lstAt_and h4 ?_
      walk_at "bu"
      refine ⟨_, _, _, _, _, rfl, n1, rfl, ?_⟩
      walk_at "bu"
      refine SL.append n2 ⟨h5, ?_⟩
      rw [← n3] at hq
      exact hq
theorem sc_Machine__call_function : FnScope ["self", "statement", "function", "things", "call", "made_in", "surroundings", "begun"] ["self", "statement", "function", "things", "call"] (defScope (inClass (topS 57) 13)) := ⟨rfl, rfl, rfl, by decide +kernel, rfl, by decide +kernel, by decide +kernel⟩
theorem ok_MCallF (T : TxtR K mg) {k : Ks} (kk : KsOk K k) (gF : ∃ u, mg "Function" = some u ∧ RelV (.ref k.CF) u) (iF : C8.InsC K k.CF) (c_Surroundings : Mak P w K mg base 1 "Surroundings" k.CS (SpU K (WSur k)) []) (c_Call : Mak P w K mg base 1 "Call" k.CC (SpU K (WCal k)) []) (me__enter : Met P w K mg base 3 k.CM "_enter" (SpU K (WEnter k)) []) {f : Addr} {fd : FuncData} (F : Fun K "_call_function" "Machine._call_function" (inClass (topS 57) 13) f fd) : FnOk P w K mg base CX0 4 f fd ["self", "statement", "function", "things", "call"] (SpU K (WCallF k)) := by
  refine F.ok sc_Machine__call_function (fun vs H Q E h => SL.spLen (fun s us R hW => by obtain ⟨x, c, f, t, st, s', rfl, _⟩ := hW; rfl) h) (fun cdv A outer s H vs Q E hr h => ?_)
  have hu := hu_of hr
  refine ⟨_, (pss_cons (ps_if (pt_not (pt_val (pe_callB (call_isC' iF) (by rfl) T.b_isinstance (by decide +kernel) (pa_cons (pv 2) (pa_cons (pe_gc (by rfl) gF) pa_nil))))) (pss_cons ps_never
      (pss_one ps_retN)) pss_nil)
      (pss_cons (ps_set (i := 5) sc_Machine__call_function.nd rfl (Or.inl rfl) (pe_fld (pv 2) rfl))
      (pss_cons (ps_set (i := 6) sc_Machine__call_function.nd rfl (Or.inl rfl) (pe_mk c_Surroundings hr (by decide) (by rfl) (pa_cons (pe_fld (pv 5) rfl) pa_nil)))
      (pss_cons (ps_set (i := 7) sc_Machine__call_function.nd rfl (Or.inl rfl) (pe_mk c_Call hr (by decide) (by rfl) (pa_cons (pv 6) (pa_cons (pe_fld (pv 5) rfl) (pa_cons (pe_fld (pv 5) rfl) (pa_cons (pv 1) (pa_cons (pe_op op_add (pe_fld (pv 4) rfl) pe_int) pa_nil)))))))
      (pss_one (ps_expr (pe_mt me__enter hr (by decide) (pv 0) (pa_cons (pv 7) (pa_cons (pe_fld (pv 2) rfl) (pa_cons (pe_fld (pv 2) rfl) (pa_cons (pv 3) pa_nil))))))))))), ?_⟩
  refine SL.body h _ fun s us R hW hl => ?_
  obtain ⟨x, c, f, t, st, s', rfl, ⟨vs0, hvs0⟩, hh, hq⟩ := hW
  change suS K _ s [some (.rf x), some st, some (.rf f), some (.rf t), some (.rf c), none, none, none] _
  try dsimp only [cxOf, Cx.nox]
  have kc := kk.c
  have km := kk.m
  have kf := kk.f
  cases hh with
  | @mk m ps blk c0 sr0 th0 tx0 wt0 n0 sr th tx wt n _ h1 h2 h3 h4 h5 =>
    have h1' : s[x]? = some (Ob.ins k.CM macFs m.l) := h1
    walk_at "bu"
    refine SL.isC h2 ?_
    have eS : ((s ++ [Ob.ins k.CS [] []]) ++ [Ob.dct [] []]).set s.length (Ob.ins k.CS surFs [.rf sr0, .rf (s ++ [Ob.ins k.CS [] []]).length]) = s ++ [Ob.ins k.CS surFs [.rf sr0, .rf (s.length + 1)], Ob.dct [] []] := by simp
    have eC : ∀ o : Ob, ((s ++ [Ob.ins k.CS surFs [.rf sr0, .rf (s.length + 1)], Ob.dct [] []]) ++ [Ob.ins k.CC [] []]).set (s ++ [Ob.ins k.CS surFs [.rf sr0, .rf (s.length + 1)], Ob.dct [] []]).length o = s ++ [Ob.ins k.CS surFs [.rf sr0, .rf (s.length + 1)], Ob.dct [] [], o] := fun o => by simp
    have eL : (s ++ [Ob.ins k.CS surFs [.rf sr0, .rf (s.length + 1)], Ob.dct [] []]).length = s.length + 2 := by simp
    walk_at "bu"
    refine ⟨_, _, rfl, newAt, rfl, ?_⟩
    rw [eS]
    dsimp only [List.set]
    have h3a : CalAt k (s ++ [Ob.ins k.CS surFs [.rf sr0, .rf (s.length + 1)], Ob.dct [] []]) c0 sr0 th0 tx0 wt0 n0 := kpApp h3
    have h4a : CalAt k (s ++ [Ob.ins k.CS surFs [.rf sr0, .rf (s.length + 1)], Ob.dct [] []]) c sr th tx wt n := kpApp h4
    walk_at "bu"
    refine ⟨_, _, _, _, _, _, rfl, newAt, rfl, ?_⟩
    rw [eC, eL]
    dsimp only [List.set]
    have h2a := kpApp (l := calO k s.length sr0 th0 tx0 st (n + 1)) h2
    have h1a := kpApp (l := calO k s.length sr0 th0 tx0 st (n + 1)) h1'
    change suG K _ _ (s ++ calO k s.length sr0 th0 tx0 st (n + 1)) _ _
    walk_at "bu"
    refine ⟨x, _, t, ps, blk, s', rfl, ⟨vs0, kpApp hvs0⟩, h5, ?_⟩
    walk_at "bu"
    exact hq
end
end SF
set_option Elab.async false
set_option linter.all false
set_option maxRecDepth 100000
set_option maxHeartbeats 4000000
/-! the machine over the store: how a statement begins -/
namespace SF
open PySem PySem.Spec PyProof.Rows L2 G0 SL
open C8 (Cal Mak Met pe_c pe_mk pe_mt pe_mt0 pe_gc)
inductive ChooseR (k : Ks) (s : Sto) (x c : Nat) : U → Sto → Prop
  | no {t a b m s1} : HoldR k s c t none s1 → MacAt k s1 x m → ChooseR k s x c (.tup [.str "if", t, a, b]) (goingS k s1 x m nonameU)
  | yes {t a b m s1 r ls} : HoldR k s c t (some r) s1 → MacAt k s1 x m → s1[m.lv]? = some (Ob.lst ls) → ls.length < sizeLine → ChooseR k s x c (.tup [.str "if", t, a, b]) (pushS k s1 m.lv ls [.str "plain", if r = true then a else b, .rf c, .non, .int 0])
def WChoose (k : Ks) (s : Sto) (us : List U) (R : Sto → U → Prop) : Prop := ∃ x c m st s', us = [.rf x, st, .rf c] ∧ MacAt k s x m ∧ ChooseR k s x c st s' ∧ R s' .non
def callZ : List Str := tabC.map (·.1)
def blockZ : List Str := ["if", "try", "last"]
inductive BegCR (k : Ks) (s : Sto) (x c : Nat) (st : U) : U → Sto → Prop
  | no {fu ths res s1 m} : ths.length ≤ 900 → VsR k c s.length (s ++ [Ob.lst []]) (fu :: ths) [] false res s1 → MacAt k s1 x m → BegCR k s x c st (.tup [.str "call", fu, .tup ths]) (goingS k s1 x m nonameU)
  | ok {fu ths f vs s1 m s'} : ths.length ≤ 900 → VsR k c s.length (s ++ [Ob.lst []]) (fu :: ths) [] true (.rf f :: vs) s1 → s1[s.length]? = some (Ob.lst (.rf f :: vs)) → MacAt k s1 x m → CallFR k (s1 ++ [Ob.lst vs]) x c f s1.length st s' → BegCR k s x c st (.tup [.str "call", fu, .tup ths]) s'
def WBegC (k : Ks) (s : Sto) (us : List U) (R : Sto → U → Prop) : Prop := ∃ x c m st rt s', us = [.rf x, st, rt, .rf c] ∧ MacAt k s x m ∧ BegCR k s x c st rt s' ∧ R s' .non
inductive BegR (k : Ks) (s : Sto) (x c : Nat) : U → Sto → Prop
  | ifs {t a b s'} : ChooseR k s x c (.tup [.str "if", t, a, b]) s' → BegR k s x c (.tup [.str "if", t, a, b]) s'
  | tr {m a n b ls} : MacAt k s x m → s[m.lv]? = some (Ob.lst ls) → ls.length < sizeLine → BegR k s x c (.tup [.str "try", a, n, b]) (pushS k s m.lv ls [.str "try", a, .rf c, .tup [n, b], .int 0])
  | la {m a b ls} : MacAt k s x m → s[m.lv]? = some (Ob.lst ls) → ls.length < sizeLine → BegR k s x c (.tup [.str "last", a, b]) (pushS k s m.lv ls [.str "first", a, .rf c, b, .int 0])
  | call {z xs rt s'} : (z : Str) ∉ blockZ → (∃ m, MacAt k s x m) → (∃ h t, rt = .tup (.str h :: t) ∧ (h : Str) = "call") → BegCR k s x c (.tup ((.str z :: xs) ++ [rt])) rt s' → BegR k s x c (.tup ((.str z :: xs) ++ [rt])) s'
  | no {z xs h t res s1 m} : (z : Str) ∉ blockZ → (h : Str) ∉ callZ → VsR k c s.length (s ++ [Ob.lst []]) [.tup (.str h :: t)] [] false res s1 → MacAt k s1 x m → BegR k s x c (.tup ((.str z :: xs) ++ [.tup (.str h :: t)])) (goingS k s1 x m nonameU)
  | ok {z xs h t s1 m v s'} : (z : Str) ∉ blockZ → (h : Str) ∉ callZ → VsR k c s.length (s ++ [Ob.lst []]) [.tup (.str h :: t)] [] true [v] s1 → s1[s.length]? = some (Ob.lst [v]) → MacAt k s1 x m → FinR k s1 x c v (.tup ((.str z :: xs) ++ [.tup (.str h :: t)])) s' → BegR k s x c (.tup ((.str z :: xs) ++ [.tup (.str h :: t)])) s'
def WBeg (k : Ks) (s : Sto) (us : List U) (R : Sto → U → Prop) : Prop := ∃ x c m st s', us = [.rf x, st, .rf c] ∧ MacAt k s x m ∧ BegR k s x c st s' ∧ R s' .non
theorem blk_ne {z : Str} (h : z ∉ blockZ) : z ≠ "if" ∧ z ≠ "try" ∧ z ≠ "last" := ⟨fun e => h (by rw [e]; decide), fun e => h (by rw [e]; decide), fun e => h (by rw [e]; decide)⟩
section
variable {P : Program} {w : World} {K : PySem.W.Frag} {mg : Str → Option Value} {base : Heap}
set_option synthInstance.maxSize 100000
set_option synthInstance.maxHeartbeats 0
local macro_rules | `(tactic| walk_at "bvg2") => `(tactic| first
  | ((with_reducible refine And.intro (show List.length _ ≤ sizeLine from ?hz) ?_); (case hz => exact Nat.le_of_ble_eq_true rfl)) | ((with_reducible refine And.intro (show List.length _ < sizeLine from ?hz) ?_); (case hz => exact Nat.le_of_ble_eq_true rfl))
  | ((with_reducible refine RD.ifDT ?hd ?_); (case hd => first | decide +kernel | exact rfl)) | ((with_reducible refine RD.ifDF ?hd ?_); (case hd => first | decide +kernel | exact rfl))
  | ((with_reducible refine BV.catT ?hz ?_); (case hz => exact Nat.le_of_ble_eq_true rfl)) | ((with_reducible refine BV.catL ?hz ?_); (case hz => exact Nat.le_of_ble_eq_true rfl))
  | (with_reducible refine BV.ofN (BV.dNew ?_))
  | ((with_reducible apply BV.gtup); exact rfl)
  | ((with_reducible refine BV.vname ?hh ?_); (case hh => decide)) | ((with_reducible apply BV.vtup); exact rfl))
local macro_rules | `(tactic| walk_at "bvg1") => `(tactic| first
  | (with_reducible refine BV.strJoin ?_)
  | (with_reducible first | refine BV.i0 ?_ | refine BV.i0b ?_)
  | ((with_reducible apply BV.ixT); exact rfl) | (with_reducible refine BV.ixT BV.at0' ?_) | ((with_reducible apply BV.ixL); exact rfl)
  | ((with_reducible apply BV.lenO); exact rfl)
  | ((with_reducible refine BV.isi ?hh ?hp ?_); (case hh => decide +kernel); (case hp => exact rfl)) | ((with_reducible refine BV.isN ?hp ?_); (case hp => exact rfl)) | ((with_reducible refine BV.notN ?hp ?_); (case hp => exact rfl)))
local macro_rules | `(tactic| walk_at "bvg0") => `(tactic| first
  | ((with_reducible apply BV.var); exact rfl)
  | ((with_reducible apply BV.retO); exact rfl) | (with_reducible refine BV.ret ?_) | ((with_reducible apply BV.asgPop); exact rfl) | (with_reducible refine BV.asg ?_) | ((with_reducible apply BV.asgPopG); exact rfl) | (with_reducible refine BV.asgG ?_)
  | ((with_reducible apply BV.append); exact rfl) | ((with_reducible apply BV.extend); exact rfl) | ((with_reducible apply BV.augI); exact rfl) | ((with_reducible apply BV.truO); exact rfl) | (with_reducible refine BV.dropE ?_)
  | ((with_reducible refine BV.isiT2 ?h1 ?h2 ?_); (case h1 => decide +kernel); (case h2 => decide +kernel)) | ((with_reducible refine And.intro (show isPlainB _ = true from ?hz) ?_); (case hz => exact rfl)) | ((with_reducible refine BV.listVals ?hu ?_); (case hu => trivial)))
local macro_rules | `(tactic| walk_at "bvgu") => `(tactic| first
  | ((with_reducible apply SL.ixT); exact rfl) | (with_reducible refine SL.ixT SL.at0U ?_) | (with_reducible refine SL.ixT SL.at1U ?_)
  | ((with_reducible apply SL.fldAt); (case hs => assumption); (case kc => assumption); (case hf => decide); (case hu => exact rfl))
  | ((with_reducible apply SL.methAt); (case hs => assumption); (case hm => decide)))
local macro_rules | `(tactic| walk_at "bv1") => `(tactic| first | (with_reducible refine BVSt.mp ?_) | walk_at "bvg0" | walk_at "bvg1" | walk_at "bvg2")
local macro_rules | `(tactic| walk_at "bv") => `(tactic| repeat first | (with_reducible refine bvRun ?_) | (with_reducible refine BVSt.mp ?_) | walk_at "bvg0" | walk_at "bvg1" | walk_at "bvg2")
local macro_rules | `(tactic| walk_at "bu") => `(tactic| repeat first | (with_reducible refine bvRun ?_) | (with_reducible refine BVSt.mp ?_) | walk_at "bvgu" | walk_at "bvg0" | walk_at "bvg1" | walk_at "bvg2")
theorem sc_Machine__choose : FnScope ["self", "statement", "call", "holds"] ["self", "statement", "call"] (defScope (inClass (topS 57) 6)) := ⟨rfl, rfl, rfl, by decide +kernel, rfl, by decide +kernel, by decide +kernel⟩
theorem ok_MChoose (T : TxtR K mg) {k : Ks} (kk : KsOk K k) (me__holds : Met P w K mg base 5 k.CM "_holds" (SpU K (WHolds k)) []) (me__raise : Met P w K mg base 1 k.CM "_raise" (SpU K (WRaise k)) []) (c_Level : Mak P w K mg base 1 "Level" k.CL (SpU K (WLvl k)) []) {f : Addr} {fd : FuncData} (F : Fun K "_choose" "Machine._choose" (inClass (topS 57) 6) f fd) : FnOk P w K mg base CX0 6 f fd ["self", "statement", "call"] (SpU K (WChoose k)) := by
  refine F.ok sc_Machine__choose (fun vs H Q E h => SL.spLen (fun s us R hW => by obtain ⟨x, c, m, t, s', rfl, _⟩ := hW; rfl) h) (fun cdv A outer s H vs Q E hr h => ?_)
  have hu := hu_of hr
  refine ⟨_, (pss_cons (ps_set (i := 3) sc_Machine__choose.nd rfl (Or.inl rfl) (pe_mt me__holds hr (by decide) (pv 0) (pa_cons (pe_ix (r := rIxT K) ix_tup (pv 1) pe_int (fun _ _ => rfl)) (pa_cons (pv 2) pa_nil))))
      (pss_one (ps_if (pt_cmpR op_isN1 (pv 3) pe_non (nomark _)) (pss_one (ps_expr (pe_mt me__raise hr (by decide) (pv 0) (pa_cons pe_str pa_nil)))) (pss_one (ps_expr (pe_bm PySem.F.plainAttrs_list PySem.F.slot_list_append PySem.F.type_list_append mt_append (pe_fld (pv 0) rfl) (pa_cons (pe_mk c_Level hr (by decide) (by rfl) (pa_cons pe_str (pa_cons (pe_ifExp (pt_val (pv 3)) (pe_ix (r := rIxT K) ix_tup (pv 1) pe_int (fun _ _ => rfl)) (pe_ix (r := rIxT K) ix_tup (pv 1) pe_int (fun _ _ => rfl))) (pa_cons (pv 2) (pa_cons pe_non pa_nil))))) pa_nil))))))), ?_⟩
  refine SL.body h _ fun s us R hW hl => ?_
  obtain ⟨x, c, m, st, s', rfl, hm, hh, hq⟩ := hW
  change suS K _ s [some (.rf x), some st, some (.rf c), none] _
  try dsimp only [cxOf, Cx.nox]
  have kc := kk.c
  have km := kk.m
  have hm' : s[x]? = some (Ob.ins k.CM macFs m.l) := hm
  cases hh with
  | @no t a b m1 s1 h1 h2 =>
    have h2' : s1[x]? = some (Ob.ins k.CM macFs m1.l) := h2
    walk_at "bu"
    refine ⟨x, c, m, _, _, s1, rfl, hm, h1, ?_⟩
    dsimp only [optBU]
    walk_at "bu"
    refine ⟨x, _, m1, rfl, h2, ?_⟩
    walk_at "bu"
    exact hq
  | @yes t a b m1 s1 r ls h1 h2 h3 h4 =>
    have h2' : s1[x]? = some (Ob.ins k.CM macFs m1.l) := h2
    obtain ⟨n1, n2, n3⟩ := new_lv (k := k) (d := [.str "plain", if r = true then a else b, .rf c, .non, .int 0]) h3
    walk_at "bu"
    refine ⟨x, c, m, _, _, s1, rfl, hm, h1, ?_⟩
    dsimp only [optBU]
    walk_at "bu"
    refine SL.lstAt_and h3 ?_
    walk_at "bu"
    cases r with
    | true =>
      rw [if_pos rfl]
      walk_at "bu"
      refine ⟨_, _, _, _, _, rfl, n1, rfl, ?_⟩
      walk_at "bu"
      refine SL.append n2 ⟨h4, ?_⟩
      rw [← n3] at hq
      exact hq
    | false =>
      rw [if_neg Bool.false_ne_true]
      walk_at "bu"
      refine ⟨_, _, _, _, _, rfl, n1, rfl, ?_⟩
      walk_at "bu"
      refine SL.append n2 ⟨h4, ?_⟩
      rw [← n3] at hq
      exact hq
theorem sc_Machine__begin_call : FnScope ["self", "statement", "right", "call", "kind", "asked", "found", "chain", "thing"] ["self", "statement", "right", "call"] (defScope (inClass (topS 57) 12)) := ⟨rfl, rfl, rfl, by decide +kernel, rfl, by decide +kernel, by decide +kernel⟩
theorem ok_MBegC (T : TxtR K mg) {k : Ks} (kk : KsOk K k) (me__values : Met P w K mg base 4 k.CM "_values" (SpU K (WValues k)) []) (me__raise : Met P w K mg base 1 k.CM "_raise" (SpU K (WRaise k)) []) (me__call_function : Met P w K mg base 4 k.CM "_call_function" (SpU K (WCallF k)) []) {f : Addr} {fd : FuncData} (F : Fun K "_begin_call" "Machine._begin_call" (inClass (topS 57) 12) f fd) : FnOk P w K mg base CX0 5 f fd ["self", "statement", "right", "call"] (SpU K (WBegC k)) := by
  refine F.ok sc_Machine__begin_call (fun vs H Q E h => SL.spLen (fun s us R hW => by obtain ⟨x, c, m, st, rt, s', rfl, _⟩ := hW; rfl) h) (fun cdv A outer s H vs Q E hr h => ?_)
  have hu := hu_of hr
  refine ⟨_, (pss_cons (ps_set (i := 4) sc_Machine__begin_call.nd rfl (Or.inl rfl) (pe_ix (r := rIxT K) ix_tup (pv 2) pe_int (fun _ _ => rfl)))
      (pss_cons (ps_set (i := 5) sc_Machine__begin_call.nd rfl (Or.inl rfl) (pe_ifExp (pt_cmpR op_eq (pv 4) pe_str (nomark _)) (pe_tup pa_nil) (pe_slice (r := rSlA K) sl_tupA (pv 2) (po_some pe_int) (po_some pe_int))))
      (pss_cons (ps_set (i := 6) sc_Machine__begin_call.nd rfl (Or.inl rfl) (pe_mt me__values hr (by decide) (pv 0) (pa_cons (pe_op op_catA (pv 5) (pe_ix (r := rIxT K) ix_tup (pv 2) (pe_un un_neg pe_int) (fun _ _ => rfl))) (pa_cons (pv 3) pa_nil))))
      (pss_one (ps_if (pt_cmpR op_isN1 (pv 6) pe_non (nomark _)) (pss_one (ps_expr (pe_mt me__raise hr (by decide) (pv 0) (pa_cons pe_str pa_nil)))) (pss_one (ps_if (pt_cmpR op_eq (pv 4) pe_str (nomark _)) (pss_one (ps_expr (pe_mt me__call_function hr (by decide) (pv 0) (pa_cons (pv 1) (pa_cons (pe_ix (r := rIxL K) ix_list (pv 6) pe_int (fun _ _ => rfl)) (pa_cons (pe_slice (r := rSlL K) sl_list (pv 6) (po_some pe_int) po_none) (pa_cons (pv 3) pa_nil))))))) (pss_one (ps_if (pt_cmpR op_eq (pv 4) pe_str (nomark _)) (pss_cons ps_never
      (pss_one ps_never)) (pss_cons ps_never
      (pss_cons ps_never
      (pss_one ps_never)))))))))))), ?_⟩
  refine SL.body h _ fun s us R hW hl => ?_
  obtain ⟨x, c, m, st, rt, s', rfl, hm, hh, hq⟩ := hW
  change suS K _ s [some (.rf x), some st, some rt, some (.rf c), none, none, none, none, none] _
  try dsimp only [cxOf, Cx.nox]
  have kc := kk.c
  have km := kk.m
  have hm' : s[x]? = some (Ob.ins k.CM macFs m.l) := hm
  cases hh with
  | @no fu ths res s1 m1 h0 h1 h2 =>
    have h2' : s1[x]? = some (Ob.ins k.CM macFs m1.l) := h2
    walk_at "bu"
    rw [show BV.cutB [U.str (Str.ofString "call"), fu, U.tup ths] (some 1) (some 2) = [fu] from rfl]
    refine SL.catT (by rw [sizeLine_eq, List.length_singleton]; omega) ?_
    walk_at "bu"
    refine ⟨x, c, m, _, false, _, s1, rfl, hm, by rw [List.singleton_append, List.length_cons]; omega, h1, ?_⟩
    rw [if_neg Bool.false_ne_true]
    walk_at "bu"
    refine ⟨x, _, m1, rfl, h2, ?_⟩
    walk_at "bu"
    exact hq
  | @ok fu ths f vs s1 m1 _ h0 h1 h2 h3 h4 =>
    have h3' : s1[x]? = some (Ob.ins k.CM macFs m1.l) := h3
    have h2a : (s1 ++ [Ob.lst vs])[s1.length]? = some (Ob.lst vs) := newAt
    have h3a : (s1 ++ [Ob.lst vs])[x]? = some (Ob.ins k.CM macFs m1.l) := kpApp h3'
    walk_at "bu"
    rw [show BV.cutB [U.str (Str.ofString "call"), fu, U.tup ths] (some 1) (some 2) = [fu] from rfl]
    refine SL.catT (by rw [sizeLine_eq, List.length_singleton]; omega) ?_
    walk_at "bu"
    refine ⟨x, c, m, _, true, _, s1, rfl, hm, by rw [List.singleton_append, List.length_cons]; omega, h1, ?_⟩
    rw [if_pos rfl]
    walk_at "bu"
    refine SL.ixL h2 at0U ?_
    walk_at "bu"
    refine SL.slL h2 ?_
    rw [show BV.cutB (U.rf f :: vs) (some 1) none = vs from cut_drop (n := 1) (Nat.le_add_left ..)]
    walk_at "bu"
    refine ⟨x, c, f, _, _, s', rfl, ⟨vs, h2a⟩, h4, ?_⟩
    walk_at "bu"
    exact hq
theorem sc_Machine__begin : FnScope ["self", "statement", "call", "kind", "found"] ["self", "statement", "call"] (defScope (inClass (topS 57) 5)) := ⟨rfl, rfl, rfl, by decide +kernel, rfl, by decide +kernel, by decide +kernel⟩
theorem ok_MBegin (T : TxtR K mg) {k : Ks} (kk : KsOk K k) (t_C : BV.FTS K w mg "CALLS" tabC) (me__choose : Met P w K mg base 6 k.CM "_choose" (SpU K (WChoose k)) []) (me__values : Met P w K mg base 4 k.CM "_values" (SpU K (WValues k)) []) (me__raise : Met P w K mg base 1 k.CM "_raise" (SpU K (WRaise k)) []) (me__finish : Met P w K mg base 3 k.CM "_finish" (SpU K (WFin k)) []) (c_Level : Mak P w K mg base 1 "Level" k.CL (SpU K (WLvl k)) []) (me__begin_call : Met P w K mg base 5 k.CM "_begin_call" (SpU K (WBegC k)) []) {f : Addr} {fd : FuncData} (F : Fun K "_begin" "Machine._begin" (inClass (topS 57) 5) f fd) : FnOk P w K mg base CX0 7 f fd ["self", "statement", "call"] (SpU K (WBeg k)) := by
  refine F.ok sc_Machine__begin (fun vs H Q E h => SL.spLen (fun s us R hW => by obtain ⟨x, c, m, t, s', rfl, _⟩ := hW; rfl) h) (fun cdv A outer s H vs Q E hr h => ?_)
  have hu := hu_of hr
  obtain ⟨pC, eC, kC, lC⟩ := t_C.ex
  refine ⟨_, (pss_cons (ps_set (i := 3) sc_Machine__begin.nd rfl (Or.inl rfl) (pe_ix (r := rIxT K) ix_tup (pv 1) pe_int (fun _ _ => rfl)))
      (pss_one (ps_if (pt_cmpR op_eq (pv 3) pe_str (nomark _)) (pss_one (ps_expr (pe_mt me__choose hr (by decide) (pv 0) (pa_cons (pv 1) (pa_cons (pv 2) pa_nil))))) (pss_one (ps_if (pt_cmpR op_eq (pv 3) pe_str (nomark _)) (pss_one (ps_expr (pe_bm PySem.F.plainAttrs_list PySem.F.slot_list_append PySem.F.type_list_append mt_append (pe_fld (pv 0) rfl) (pa_cons (pe_mk c_Level hr (by decide) (by rfl) (pa_cons pe_str (pa_cons (pe_ix (r := rIxT K) ix_tup (pv 1) pe_int (fun _ _ => rfl)) (pa_cons (pv 2) (pa_cons (pe_slice (r := rSlA K) sl_tupA (pv 1) (po_some pe_int) po_none) pa_nil))))) pa_nil)))) (pss_one (ps_if (pt_cmpR op_eq (pv 3) pe_str (nomark _)) (pss_one (ps_expr (pe_bm PySem.F.plainAttrs_list PySem.F.slot_list_append PySem.F.type_list_append mt_append (pe_fld (pv 0) rfl) (pa_cons (pe_mk c_Level hr (by decide) (by rfl) (pa_cons pe_str (pa_cons (pe_ix (r := rIxT K) ix_tup (pv 1) pe_int (fun _ _ => rfl)) (pa_cons (pv 2) (pa_cons (pe_ix (r := rIxT K) ix_tup (pv 1) pe_int (fun _ _ => rfl)) pa_nil))))) pa_nil)))) (pss_one (ps_if (pt_cmpR (BV.op_inKd rfl kC) (pe_ix (r := rIxT K) ix_tup (pe_ix (r := rIxT K) ix_tup (pv 1) (pe_un un_neg pe_int) (fun _ _ => rfl)) pe_int (fun _ _ => rfl)) (pe_gc (v := .ref pC) (by rfl) ⟨_, eC, rfl⟩) (by rfl)) (pss_one (ps_expr (pe_mt me__begin_call hr (by decide) (pv 0) (pa_cons (pv 1) (pa_cons (pe_ix (r := rIxT K) ix_tup (pv 1) (pe_un un_neg pe_int) (fun _ _ => rfl)) (pa_cons (pv 2) pa_nil)))))) (pss_cons (ps_set (i := 4) sc_Machine__begin.nd rfl (Or.inl rfl) (pe_mt me__values hr (by decide) (pv 0) (pa_cons (pe_slice (r := rSlA K) sl_tupA (pv 1) (po_some (pe_un un_neg pe_int)) po_none) (pa_cons (pv 2) pa_nil))))
      (pss_one (ps_if (pt_cmpR op_isN1 (pv 4) pe_non (nomark _)) (pss_one (ps_expr (pe_mt me__raise hr (by decide) (pv 0) (pa_cons pe_str pa_nil)))) (pss_one (ps_expr (pe_mt me__finish hr (by decide) (pv 0) (pa_cons (pv 1) (pa_cons (pe_ix (r := rIxL K) ix_list (pv 4) pe_int (fun _ _ => rfl)) (pa_cons (pv 2) pa_nil)))))))))))))))))), ?_⟩
  refine SL.body h _ fun s us R hW hl => ?_
  obtain ⟨x, c, m, st, s', rfl, hm, hh, hq⟩ := hW
  change suS K _ s [some (.rf x), some st, some (.rf c), none, none] _
  try dsimp only [cxOf, Cx.nox]
  have kc := kk.c
  have km := kk.m
  have hm' : s[x]? = some (Ob.ins k.CM macFs m.l) := hm
  cases hh with
  | @ifs t a b _ h1 =>
    walk_at "bu"
    refine ⟨x, c, m, _, s', rfl, hm, h1, ?_⟩
    walk_at "bu"
    exact hq
  | @tr m1 a n b ls h1 h2 h3 =>
    have h1' : s[x]? = some (Ob.ins k.CM macFs m1.l) := h1
    obtain ⟨n1, n2, n3⟩ := new_lv (k := k) (d := [.str "try", a, .rf c, .tup [n, b], .int 0]) h2
    clear hm'
    walk_at "bu"
    refine SL.lstAt_and h2 ?_
    walk_at "bu"
    rw [show BV.cutB [U.str (Str.ofString "try"), a, n, b] (some 2) none = [n, b] from cut_drop (n := 2) (Nat.le_of_ble_eq_true rfl)]
    refine ⟨_, _, _, _, _, rfl, n1, rfl, ?_⟩
    walk_at "bu"
    refine SL.append n2 ⟨h3, ?_⟩
    rw [← n3] at hq
    exact hq
  | @la m1 a b ls h1 h2 h3 =>
    have h1' : s[x]? = some (Ob.ins k.CM macFs m1.l) := h1
    obtain ⟨n1, n2, n3⟩ := new_lv (k := k) (d := [.str "first", a, .rf c, b, .int 0]) h2
    clear hm'
    walk_at "bu"
    refine SL.lstAt_and h2 ?_
    walk_at "bu"
    refine ⟨_, _, _, _, _, rfl, n1, rfl, ?_⟩
    walk_at "bu"
    refine SL.append n2 ⟨h3, ?_⟩
    rw [← n3] at hq
    exact hq
  | @call z xs rt _ hz hm0 hrt h1 =>
    obtain ⟨e1, e2, e3⟩ := blk_ne hz
    obtain ⟨h, t, rfl, rfl⟩ := hrt
    walk_at "bu"
    refine SL.ixT (show atI (U.str z :: (xs ++ [U.tup (U.str "call" :: t)])) 0 = _ from at0U) ?_
    walk_at "bu"
    rw [if_neg (by rw [decide_eq_false e1]; exact Bool.false_ne_true)]
    walk_at "bu"
    rw [if_neg (by rw [decide_eq_false e2]; exact Bool.false_ne_true)]
    walk_at "bu"
    rw [if_neg (by rw [decide_eq_false e3]; exact Bool.false_ne_true)]
    walk_at "bu"
    refine SL.ixT (atLastU (xs := U.str z :: xs)) ?_
    walk_at "bu"
    refine SL.kinU (BV.LookS.keys lC) ?_
    rw [decide_eq_true (show ("call" : Str) ∈ tabC.map (·.1) by decide)]
    walk_at "bu"
    refine SL.ixT (atLastU (xs := U.str z :: xs)) ?_
    walk_at "bu"
    refine ⟨x, c, m, _, _, s', rfl, hm, h1, ?_⟩
    walk_at "bu"
    exact hq
  | @no z xs h t res s1 m1 hz hc h1 h2 =>
    have h2' : s1[x]? = some (Ob.ins k.CM macFs m1.l) := h2
    obtain ⟨e1, e2, e3⟩ := blk_ne hz
    walk_at "bu"
    refine SL.ixT (show atI (U.str z :: (xs ++ [U.tup (U.str h :: t)])) 0 = _ from at0U) ?_
    walk_at "bu"
    rw [if_neg (by rw [decide_eq_false e1]; exact Bool.false_ne_true)]
    walk_at "bu"
    rw [if_neg (by rw [decide_eq_false e2]; exact Bool.false_ne_true)]
    walk_at "bu"
    rw [if_neg (by rw [decide_eq_false e3]; exact Bool.false_ne_true)]
    walk_at "bu"
    refine SL.ixT (atLastU (xs := U.str z :: xs)) ?_
    walk_at "bu"
    refine SL.kinU (BV.LookS.keys lC) ?_
    rw [decide_eq_false (show ¬ h ∈ tabC.map (·.1) from hc)]
    walk_at "bu"
    rw [cutLastU (xs := U.str z :: xs)]
    refine ⟨x, c, m, _, false, _, s1, rfl, hm, Nat.le_of_ble_eq_true rfl, h1, ?_⟩
    rw [if_neg Bool.false_ne_true]
    walk_at "bu"
    refine ⟨x, _, m1, rfl, h2, ?_⟩
    walk_at "bu"
    exact hq
  | @ok z xs h t s1 m1 v _ hz hc h1 h2 h3 h4 =>
    have h3' : s1[x]? = some (Ob.ins k.CM macFs m1.l) := h3
    obtain ⟨e1, e2, e3⟩ := blk_ne hz
    walk_at "bu"
    refine SL.ixT (show atI (U.str z :: (xs ++ [U.tup (U.str h :: t)])) 0 = _ from at0U) ?_
    walk_at "bu"
    rw [if_neg (by rw [decide_eq_false e1]; exact Bool.false_ne_true)]
    walk_at "bu"
    rw [if_neg (by rw [decide_eq_false e2]; exact Bool.false_ne_true)]
    walk_at "bu"
    rw [if_neg (by rw [decide_eq_false e3]; exact Bool.false_ne_true)]
    walk_at "bu"
    refine SL.ixT (atLastU (xs := U.str z :: xs)) ?_
    walk_at "bu"
    refine SL.kinU (BV.LookS.keys lC) ?_
    rw [decide_eq_false (show ¬ h ∈ tabC.map (·.1) from hc)]
    walk_at "bu"
    rw [cutLastU (xs := U.str z :: xs)]
    refine ⟨x, c, m, _, true, _, s1, rfl, hm, Nat.le_of_ble_eq_true rfl, h1, ?_⟩
    rw [if_pos rfl]
    walk_at "bu"
    refine SL.ixL h2 at0U ?_
    walk_at "bu"
    refine ⟨x, c, v, _, s', rfl, h4, ?_⟩
    walk_at "bu"
    exact hq
end
end SF
set_option Elab.async false
set_option linter.all false
set_option maxRecDepth 100000
set_option maxHeartbeats 4000000
/-! the machine over the store: levels are left; a step -/
namespace SF
open PySem PySem.Spec PyProof.Rows L2 G0 SL
open C8 (Cal Mak Met pe_c pe_mk pe_mt pe_mt0 pe_gc)
def LevAt (k : Ks) (s : Sto) (l : Nat) (kd : Str) (blk : U) (c : Nat) (more : U) (at_ : Int) : Prop := s[l]? = some (Ob.ins k.CL lvlFs [.str kd, blk, .rf c, more, .int at_])
def endS (k : Ks) (s : Sto) (x : Nat) (m : Mv) (e : U) : Sto := s.set x (Ob.ins k.CM macFs { m with ending := e }.l)
inductive LeaveR (k : Ks) (s : Sto) (x l : Nat) : Sto → Prop
  | plain {b c more a} : LevAt k s l "plain" b c more a → LeaveR k s x l s
  | tryNo {b c more a m} : LevAt k s l "try" b c more a → MacAt k s x m → m.going = .non → LeaveR k s x l s
  | tryRet {b c more a m v} : LevAt k s l "try" b c more a → MacAt k s x m → m.going = .tup [.str "return", v] → LeaveR k s x l s
  | tryYes {b c n b2 a m v sr th tx wt nn ls s2} : LevAt k s l "try" b c (.tup [.str n, b2]) a → MacAt k s x m → m.going = .tup [.str "raise", v] → LevAt k (goingS k s x m .non) l "try" b c (.tup [.str n, b2]) a → CalAt k (goingS k s x m .non) c sr th tx wt nn → GiveR k (goingS k s x m .non) sr n v m.steps s2 → MacAt k s2 x { m with going := .non } → LevAt k s2 l "try" b c (.tup [.str n, b2]) a → s2[m.lv]? = some (Ob.lst ls) → ls.length < sizeLine → LeaveR k s x l (pushS k s2 m.lv ls [.str "plain", b2, .rf c, .non, .int 0])
  | first {b c more a m ls} : LevAt k s l "first" b c more a → MacAt k s x m → s[m.lv]? = some (Ob.lst ls) → ls.length < sizeLine → MacAt k (pushS k s m.lv ls [.str "second", more, .rf c, m.going, .int 0]) x m → LeaveR k s x l (goingS k (pushS k s m.lv ls [.str "second", more, .rf c, m.going, .int 0]) x m .non)
  | secNon {b c more a m} : LevAt k s l "second" b c more a → MacAt k s x m → m.going = .non → LeaveR k s x l (goingS k s x m more)
  | secGo {b c more a m} : LevAt k s l "second" b c more a → MacAt k s x m → isNon m.going = some false → LeaveR k s x l s
  | bodyDone {b c more a m} : LevAt k s l "body" b c more a → MacAt k s x m → m.going = .non → LeaveR k s x l (endS k s x m (.tup [.str "done"]))
  | bodyRaised {b c more a m v z} : LevAt k s l "body" b c more a → MacAt k s x m → m.going = .tup [.str "raise", v] → toldU v = some z → LeaveR k s x l (endS k s x m (.tup [.str "raised", .str z]))
  | callRs {b c more a m v} : LevAt k s l "call" b c more a → MacAt k s x m → m.going = .tup [.str "raise", v] → LeaveR k s x l s
  | callGo {b c more a m v sr th tx wt n ls l2 kd2 b2 c2 more2 a2 s'} : LevAt k s l "call" b c more a → MacAt k s x m → (m.going = .non ∧ v = .non ∨ m.going = .tup [.str "return", v]) → LevAt k (goingS k s x m .non) l "call" b c more a → CalAt k (goingS k s x m .non) c sr th tx wt n → (goingS k s x m .non)[m.lv]? = some (Ob.lst (ls ++ [.rf l2])) → LevAt k (goingS k s x m .non) l2 kd2 b2 c2 more2 a2 → FinR k (goingS k s x m .non) x c2 v wt s' → LeaveR k s x l s'
def WLeaveCall (k : Ks) (s : Sto) (us : List U) (R : Sto → U → Prop) : Prop := ∃ x m l s' b c more a, us = [.rf x, .rf l] ∧ MacAt k s x m ∧ LevAt k s l "call" b c more a ∧ LeaveR k s x l s' ∧ R s' .non
def WLeave (k : Ks) (s : Sto) (us : List U) (R : Sto → U → Prop) : Prop := ∃ x m l s', us = [.rf x, .rf l] ∧ MacAt k s x m ∧ LeaveR k s x l s' ∧ R s' .non
def WLeaveTry (k : Ks) (s : Sto) (us : List U) (R : Sto → U → Prop) : Prop := ∃ x m l s' b c more a, us = [.rf x, .rf l] ∧ MacAt k s x m ∧ LevAt k s l "try" b c more a ∧ LeaveR k s x l s' ∧ R s' .non
theorem lev_in {k : Ks} {s : Sto} {l c c' : Nat} {kd kd' : Str} {b b' more more' : U} {a a' : Int} (h : LevAt k s l kd b c more a) (h' : LevAt k s l kd' b' c' more' a') : kd = kd' ∧ b = b' ∧ c = c' ∧ more = more' ∧ a = a' := by
  have e := Option.some.inj (h.symm.trans h')
  have e := Ob.ins.inj e
  have e := e.2.2
  simp only [List.cons.injEq, U.str.injEq, U.rf.injEq, U.int.injEq, and_true] at e
  exact e
section
variable {P : Program} {w : World} {K : PySem.W.Frag} {mg : Str → Option Value} {base : Heap}
set_option synthInstance.maxSize 100000
set_option synthInstance.maxHeartbeats 0
local macro_rules | `(tactic| walk_at "bvg2") => `(tactic| first
  | ((with_reducible refine And.intro (show List.length _ ≤ sizeLine from ?hz) ?_); (case hz => exact Nat.le_of_ble_eq_true rfl)) | ((with_reducible refine And.intro (show List.length _ < sizeLine from ?hz) ?_); (case hz => exact Nat.le_of_ble_eq_true rfl))
  | ((with_reducible refine RD.ifDT ?hd ?_); (case hd => first | decide +kernel | exact rfl)) | ((with_reducible refine RD.ifDF ?hd ?_); (case hd => first | decide +kernel | exact rfl))
  | ((with_reducible refine BV.catT ?hz ?_); (case hz => exact Nat.le_of_ble_eq_true rfl)) | ((with_reducible refine BV.catL ?hz ?_); (case hz => exact Nat.le_of_ble_eq_true rfl))
  | (with_reducible refine BV.ofN (BV.dNew ?_))
  | ((with_reducible apply BV.gtup); exact rfl)
  | ((with_reducible refine BV.vname ?hh ?_); (case hh => decide)) | ((with_reducible apply BV.vtup); exact rfl))
local macro_rules | `(tactic| walk_at "bvg1") => `(tactic| first
  | (with_reducible refine BV.strJoin ?_)
  | (with_reducible first | refine BV.i0 ?_ | refine BV.i0b ?_)
  | ((with_reducible apply BV.ixT); exact rfl) | (with_reducible refine BV.ixT BV.at0' ?_) | ((with_reducible apply BV.ixL); exact rfl)
  | ((with_reducible apply BV.lenO); exact rfl)
  | ((with_reducible refine BV.isi ?hh ?hp ?_); (case hh => decide +kernel); (case hp => exact rfl)) | ((with_reducible refine BV.isN ?hp ?_); (case hp => exact rfl)) | ((with_reducible refine BV.notN ?hp ?_); (case hp => exact rfl)))
local macro_rules | `(tactic| walk_at "bvg0") => `(tactic| first
  | ((with_reducible apply BV.var); exact rfl)
  | ((with_reducible apply BV.retO); exact rfl) | (with_reducible refine BV.ret ?_) | ((with_reducible apply BV.asgPop); exact rfl) | (with_reducible refine BV.asg ?_) | ((with_reducible apply BV.asgPopG); exact rfl) | (with_reducible refine BV.asgG ?_)
  | ((with_reducible apply BV.append); exact rfl) | ((with_reducible apply BV.extend); exact rfl) | ((with_reducible apply BV.augI); exact rfl) | ((with_reducible apply BV.truO); exact rfl) | (with_reducible refine BV.dropE ?_)
  | ((with_reducible refine BV.isiT2 ?h1 ?h2 ?_); (case h1 => decide +kernel); (case h2 => decide +kernel)) | ((with_reducible refine And.intro (show isPlainB _ = true from ?hz) ?_); (case hz => exact rfl)) | ((with_reducible refine BV.listVals ?hu ?_); (case hu => trivial)))
local macro_rules | `(tactic| walk_at "bvgu") => `(tactic| first
  | ((with_reducible apply SL.ixT); exact rfl) | (with_reducible refine SL.ixT SL.at0U ?_) | (with_reducible refine SL.ixT SL.at1U ?_)
  | ((with_reducible apply SL.fldAt); (case hs => assumption); (case kc => assumption); (case hf => decide); (case hu => exact rfl))
  | ((with_reducible apply SL.methAt); (case hs => assumption); (case hm => decide)))
local macro_rules | `(tactic| walk_at "bv1") => `(tactic| first | (with_reducible refine BVSt.mp ?_) | walk_at "bvg0" | walk_at "bvg1" | walk_at "bvg2")
local macro_rules | `(tactic| walk_at "bv") => `(tactic| repeat first | (with_reducible refine bvRun ?_) | (with_reducible refine BVSt.mp ?_) | walk_at "bvg0" | walk_at "bvg1" | walk_at "bvg2")
local macro_rules | `(tactic| walk_at "bu") => `(tactic| repeat first | (with_reducible refine bvRun ?_) | (with_reducible refine BVSt.mp ?_) | walk_at "bvgu" | walk_at "bvg0" | walk_at "bvg1" | walk_at "bvg2")
theorem sc_Machine__leave_try : FnScope ["self", "level", "going", "name", "second"] ["self", "level"] (defScope (inClass (topS 57) 21)) := ⟨rfl, rfl, rfl, by decide +kernel, rfl, by decide +kernel, by decide +kernel⟩
theorem ok_MLeaveTry (T : TxtR K mg) {k : Ks} (kk : KsOk K k) (me_give : Met P w K mg base 1 k.CS "give" (SpU K (WGive k)) []) (c_Level : Mak P w K mg base 1 "Level" k.CL (SpU K (WLvl k)) []) {f : Addr} {fd : FuncData} (F : Fun K "_leave_try" "Machine._leave_try" (inClass (topS 57) 21) f fd) : FnOk P w K mg base CX0 3 f fd ["self", "level"] (SpU K (WLeaveTry k)) := by
  refine F.ok sc_Machine__leave_try (fun vs H Q E h => SL.spLen (fun s us R hW => by obtain ⟨x, m, l, s', b, c, more, a, rfl, _⟩ := hW; rfl) h) (fun cdv A outer s H vs Q E hr h => ?_)
  have hu := hu_of hr
  refine ⟨_, (pss_cons (ps_set (i := 2) sc_Machine__leave_try.nd rfl (Or.inl rfl) (pe_fld (pv 0) rfl))
      (pss_one (ps_if ((pw_and (pt_cmpR op_notN1 (pv 2) pe_non (nomark _)) (pw_and1 (pt_cmpR op_eq (pe_ix (r := rIxT K) ix_tup (pv 2) pe_int (fun _ _ => rfl)) pe_str (nomark _))))).pt (pss_cons (ps_asg (pe_fld (pv 1) rfl) (pg_tup rfl (pgs_cons (pg_name (i := 3) sc_Machine__leave_try.nd rfl (Or.inl rfl)) (pgs_cons (pg_name (i := 4) sc_Machine__leave_try.nd rfl (Or.inl rfl)) pgs_nil))))
      (pss_cons (ps_fld (pv 0) pe_non rfl)
      (pss_cons (ps_expr (pe_mt me_give hr (by decide) (pe_fld (pe_fld (pv 1) rfl) rfl) (pa_cons (pv 3) (pa_cons (pe_ix (r := rIxT K) ix_tup (pv 2) pe_int (fun _ _ => rfl)) (pa_cons (pe_fld (pv 0) rfl) pa_nil)))))
      (pss_one (ps_expr (pe_bm PySem.F.plainAttrs_list PySem.F.slot_list_append PySem.F.type_list_append mt_append (pe_fld (pv 0) rfl) (pa_cons (pe_mk c_Level hr (by decide) (by rfl) (pa_cons pe_str (pa_cons (pv 4) (pa_cons (pe_fld (pv 1) rfl) (pa_cons pe_non pa_nil))))) pa_nil))))))) pss_nil))), ?_⟩
  refine SL.body h _ fun s us R hW hl => ?_
  obtain ⟨x, m, l, s', b, c, more, a, rfl, hm, hL, hv, hq⟩ := hW
  change suS K _ s [some (.rf x), some (.rf l), none, none, none] _
  try dsimp only [cxOf, Cx.nox]
  have kc := kk.c
  have km := kk.m
  have kl := kk.l
  have hno : ∀ {kd : Str} {b' c' more' a'}, LevAt k s l kd b' c' more' a' → kd = "try" := fun h => (lev_in h hL).1
  cases hv with
  | tryNo h1 h2 h3 =>
    rename_i m1
    have h2' : s[x]? = some (Ob.ins k.CM macFs m1.l) := h2
    clear hm hL
    walk_at "bu"
    rw [h3]
    walk_at "bu"
    exact hq
  | tryRet h1 h2 h3 =>
    rename_i m1 v
    have h2' : s[x]? = some (Ob.ins k.CM macFs m1.l) := h2
    clear hm hL
    walk_at "bu"
    rw [h3]
    walk_at "bu"
    exact hq
  | @tryYes b1 c1 n b2 a1 m1 v sr th tx wt nn ls s2 h1 h2 h3 h4 h5 h6 h7 h8 h9 h10 =>
    have h2' : s[x]? = some (Ob.ins k.CM macFs m1.l) := h2
    clear hm hL hno
    walk_at "bu"
    rw [h3]
    walk_at "bu"
    refine SL.gtup rfl ?_
    walk_at "bu"
    refine macSet (m' := { m1 with going := .non }) kk.m h2 (by decide) rfl ?_
    have h7' : s2[x]? = some (Ob.ins k.CM macFs { m1 with going := U.non }.l) := h7
    have hg : goingS k s x m1 .non = s.set x (Ob.ins k.CM macFs { m1 with going := U.non }.l) := rfl
    rw [← hg]
    have hx1 : (goingS k s x m1 .non)[x]? = some (Ob.ins k.CM macFs { m1 with going := U.non }.l) := List.getElem?_set_self (List.getElem?_eq_some_iff.mp h2').1
    generalize goingS k s x m1 .non = s1 at h4 h5 h6 hx1
    obtain ⟨_, g3⟩ : ∃ ds, s1[sr]? = some (Ob.ins k.CS surFs ds) := by
      cases h6 with
      | old h1 => exact ⟨_, h1.1⟩
      | new h1 => exact ⟨_, h1.1⟩
    obtain ⟨n1, n2, n3⟩ := new_lv (k := k) (d := [.str "plain", b2, .rf c1, .non, .int 0]) h9
    walk_at "bu"
    refine ⟨sr, n, v, m1.steps, s2, rfl, h6, ?_⟩
    clear h2' hx1 h1 h4 hg
    walk_at "bu"
    refine SL.lstAt_and h9 ?_
    walk_at "bu"
    refine ⟨_, _, _, _, _, rfl, n1, rfl, ?_⟩
    walk_at "bu"
    refine SL.append n2 ⟨h10, ?_⟩
    rw [← n3] at hq
    exact hq
  | plain h1 => exact absurd (hno h1) (by decide)
  | first h1 => exact absurd (hno h1) (by decide)
  | secNon h1 => exact absurd (hno h1) (by decide)
  | secGo h1 => exact absurd (hno h1) (by decide)
  | bodyDone h1 => exact absurd (hno h1) (by decide)
  | bodyRaised h1 => exact absurd (hno h1) (by decide)
  | callRs h1 => exact absurd (hno h1) (by decide)
  | callGo h1 => exact absurd (hno h1) (by decide)
theorem sc_Machine__leave_call : FnScope ["self", "level", "going", "value"] ["self", "level"] (defScope (inClass (topS 57) 22)) := ⟨rfl, rfl, rfl, by decide +kernel, rfl, by decide +kernel, by decide +kernel⟩
theorem ok_MLeaveCall (T : TxtR K mg) {k : Ks} (kk : KsOk K k) (me__finish : Met P w K mg base 3 k.CM "_finish" (SpU K (WFin k)) []) {f : Addr} {fd : FuncData} (F : Fun K "_leave_call" "Machine._leave_call" (inClass (topS 57) 22) f fd) : FnOk P w K mg base CX0 4 f fd ["self", "level"] (SpU K (WLeaveCall k)) := by
  refine F.ok sc_Machine__leave_call (fun vs H Q E h => SL.spLen (fun s us R hW => by obtain ⟨x, m, l, s', b, c, more, a, rfl, _⟩ := hW; rfl) h) (fun cdv A outer s H vs Q E hr h => ?_)
  have hu := hu_of hr
  refine ⟨_, (pss_cons (ps_set (i := 2) sc_Machine__leave_call.nd rfl (Or.inl rfl) (pe_fld (pv 0) rfl))
      (pss_cons (ps_if ((pw_and (pt_cmpR op_notN1 (pv 2) pe_non (nomark _)) (pw_and1 (pt_cmpR op_eq (pe_ix (r := rIxT K) ix_tup (pv 2) pe_int (fun _ _ => rfl)) pe_str (nomark _))))).pt (pss_one ps_retN) pss_nil)
      (pss_cons (ps_fld (pv 0) pe_non rfl)
      (pss_cons (ps_set (i := 3) sc_Machine__leave_call.nd rfl (Or.inl rfl) (pe_ifExp (pt_cmpR op_isN1 (pv 2) pe_non (nomark _)) pe_non (pe_ix (r := rIxT K) ix_tup (pv 2) pe_int (fun _ _ => rfl))))
      (pss_one (ps_expr (pe_mt me__finish hr (by decide) (pv 0) (pa_cons (pe_fld (pe_fld (pv 1) rfl) rfl) (pa_cons (pv 3) (pa_cons (pe_fld (pe_ix (r := rIxL K) ix_list (pe_fld (pv 0) rfl) (pe_un un_neg pe_int) (fun _ _ => rfl)) rfl) pa_nil)))))))))), ?_⟩
  refine SL.body h _ fun s us R hW hl => ?_
  obtain ⟨x, m, l, s', b, c, more, a, rfl, hm, hL, hv, hq⟩ := hW
  change suS K _ s [some (.rf x), some (.rf l), none, none] _
  try dsimp only [cxOf, Cx.nox]
  have kc := kk.c
  have km := kk.m
  have kl := kk.l
  have hno : ∀ {kd : Str} {b' c' more' a'}, LevAt k s l kd b' c' more' a' → kd = "call" := fun h => (lev_in h hL).1
  cases hv with
  | callRs h1 h2 h3 =>
    rename_i m1 v
    have h2' : s[x]? = some (Ob.ins k.CM macFs m1.l) := h2
    clear hm hL
    walk_at "bu"
    rw [h3]
    walk_at "bu"
    exact hq
  | @callGo b1 c1 more1 a1 m1 v sr th tx wt n ls l2 kd2 b2 c2 more2 a2 _ h1 h2 h3 h4 h5 h6 h7 h8 =>
    have h2' : s[x]? = some (Ob.ins k.CM macFs m1.l) := h2
    clear hm hL
    have hx1 : (goingS k s x m1 .non)[x]? = some (Ob.ins k.CM macFs { m1 with going := .non }.l) := List.getElem?_set_self (List.getElem?_eq_some_iff.mp h2').1
    rcases h3 with ⟨h3, rfl⟩ | h3
    · walk_at "bu"
      rw [h3]
      walk_at "bu"
      refine macSet (m' := { m1 with going := .non }) kk.m h2 (by decide) rfl ?_
      change suS K _ (goingS k s x m1 .non) _ _
      generalize goingS k s x m1 .non = s1 at h4 h5 h6 h7 h8 hx1
      clear h2' h2
      walk_at "bu"
      refine SL.ixLast h6 ?_
      walk_at "bu"
      refine ⟨x, c2, _, wt, s', rfl, h8, ?_⟩
      walk_at "bu"
      exact hq
    · walk_at "bu"
      rw [h3]
      walk_at "bu"
      refine macSet (m' := { m1 with going := .non }) kk.m h2 (by decide) rfl ?_
      change suS K _ (goingS k s x m1 .non) _ _
      generalize goingS k s x m1 .non = s1 at h4 h5 h6 h7 h8 hx1
      clear h2' h2
      walk_at "bu"
      refine SL.ixLast h6 ?_
      walk_at "bu"
      refine ⟨x, c2, _, wt, s', rfl, h8, ?_⟩
      walk_at "bu"
      exact hq
  | plain h1 => exact absurd (hno h1) (by decide)
  | tryNo h1 => exact absurd (hno h1) (by decide)
  | tryRet h1 => exact absurd (hno h1) (by decide)
  | tryYes h1 => exact absurd (hno h1) (by decide)
  | first h1 => exact absurd (hno h1) (by decide)
  | secNon h1 => exact absurd (hno h1) (by decide)
  | secGo h1 => exact absurd (hno h1) (by decide)
  | bodyDone h1 => exact absurd (hno h1) (by decide)
  | bodyRaised h1 => exact absurd (hno h1) (by decide)
theorem sc_Machine__leave : FnScope ["self", "level", "kind", "raised"] ["self", "level"] (defScope (inClass (topS 57) 20)) := ⟨rfl, rfl, rfl, by decide +kernel, rfl, by decide +kernel, by decide +kernel⟩
theorem ok_MLeave (T : TxtR K mg) {k : Ks} (kk : KsOk K k) (me__leave_try : Met P w K mg base 3 k.CM "_leave_try" (SpU K (WLeaveTry k)) []) (c_told : Cal P w K mg base 1 "told" (SpU K WTold) []) (c_Level : Mak P w K mg base 1 "Level" k.CL (SpU K (WLvl k)) []) (me__leave_call : Met P w K mg base 4 k.CM "_leave_call" (SpU K (WLeaveCall k)) []) {f : Addr} {fd : FuncData} (F : Fun K "_leave" "Machine._leave" (inClass (topS 57) 20) f fd) : FnOk P w K mg base CX0 5 f fd ["self", "level"] (SpU K (WLeave k)) := by
  refine F.ok sc_Machine__leave (fun vs H Q E h => SL.spLen (fun s us R hW => by obtain ⟨x, m, l, s', rfl, _⟩ := hW; rfl) h) (fun cdv A outer s H vs Q E hr h => ?_)
  have hu := hu_of hr
  refine ⟨_, (pss_cons (ps_set (i := 2) sc_Machine__leave.nd rfl (Or.inl rfl) (pe_fld (pv 1) rfl))
      (pss_one (ps_if (pt_cmpR op_eq (pv 2) pe_str (nomark _)) (pss_one (ps_expr (pe_mt me__leave_try hr (by decide) (pv 0) (pa_cons (pv 1) pa_nil)))) (pss_one (ps_if (pt_cmpR op_eq (pv 2) pe_str (nomark _)) (pss_cons (ps_expr (pe_bm PySem.F.plainAttrs_list PySem.F.slot_list_append PySem.F.type_list_append mt_append (pe_fld (pv 0) rfl) (pa_cons (pe_mk c_Level hr (by decide) (by rfl) (pa_cons pe_str (pa_cons (pe_fld (pv 1) rfl) (pa_cons (pe_fld (pv 1) rfl) (pa_cons (pe_fld (pv 0) rfl) pa_nil))))) pa_nil)))
      (pss_one (ps_fld (pv 0) pe_non rfl))) (pss_one (ps_if ((pw_and (pt_cmpR op_eq (pv 2) pe_str (nomark _)) (pw_and1 (pt_cmpR op_isN1 (pe_fld (pv 0) rfl) pe_non (nomark _))))).pt (pss_one (ps_fld (pv 0) (pe_fld (pv 1) rfl) rfl)) (pss_one (ps_if (pt_cmpR op_eq (pv 2) pe_str (nomark _)) (pss_one (ps_expr (pe_mt me__leave_call hr (by decide) (pv 0) (pa_cons (pv 1) pa_nil)))) (pss_one (ps_if (pt_cmpR op_eq (pv 2) pe_str (nomark _)) (pss_cons (ps_set (i := 3) sc_Machine__leave.nd rfl (Or.inl rfl) (pe_fld (pv 0) rfl))
      (pss_one (ps_fld (pv 0) (pe_ifExp (pt_cmpR op_isN1 (pv 3) pe_non (nomark _)) (pe_tup (pa_cons pe_str pa_nil)) (pe_tup (pa_cons pe_str (pa_cons (pe_c c_told hr (by decide) (by rfl) (pa_cons (pe_ix (r := rIxT K) ix_tup (pv 3) pe_int (fun _ _ => rfl)) pa_nil)) pa_nil)))) rfl))) pss_nil))))))))))), ?_⟩
  refine SL.body h _ fun s us R hW hl => ?_
  obtain ⟨x, m, l, s', rfl, hm, hv, hq⟩ := hW
  change suS K _ s [some (.rf x), some (.rf l), none, none] _
  try dsimp only [cxOf, Cx.nox]
  have kc := kk.c
  have km := kk.m
  have kl := kk.l
  cases hv with
  | plain h1 =>
    walk_at "bu"
    exact hq
  | @tryNo b c more a m1 h1 h2 h3 =>
    have h2' : s[x]? = some (Ob.ins k.CM macFs m1.l) := h2
    walk_at "bu"
    refine ⟨x, m1, l, s, b, c, more, a, rfl, h2, h1, .tryNo h1 h2 h3, ?_⟩
    walk_at "bu"
    exact hq
  | @tryRet b c more a m1 v h1 h2 h3 =>
    have h2' : s[x]? = some (Ob.ins k.CM macFs m1.l) := h2
    walk_at "bu"
    refine ⟨x, m1, l, s, b, c, more, a, rfl, h2, h1, .tryRet h1 h2 h3, ?_⟩
    walk_at "bu"
    exact hq
  | @tryYes b1 c1 n b2 a1 m1 v sr th tx wt nn ls s2 h1 h2 h3 h4 h5 h6 h7 h8 h9 h10 =>
    have h2' : s[x]? = some (Ob.ins k.CM macFs m1.l) := h2
    walk_at "bu"
    refine ⟨x, m1, l, _, _, _, _, _, rfl, h2, h1, .tryYes h1 h2 h3 h4 h5 h6 h7 h8 h9 h10, ?_⟩
    walk_at "bu"
    exact hq
  | @first b c more a m1 ls h1 h2 h3 h4 h5 =>
    have h2' : s[x]? = some (Ob.ins k.CM macFs m1.l) := h2
    clear hm
    obtain ⟨n1, n2, n3⟩ := new_lv (k := k) (d := [.str "second", more, .rf c, m1.going, .int 0]) h3
    walk_at "bu"
    refine SL.lstAt_and h3 ?_
    walk_at "bu"
    refine ⟨_, _, _, _, _, rfl, n1, rfl, ?_⟩
    walk_at "bu"
    refine SL.append n2 ⟨h4, ?_⟩
    rw [n3]
    walk_at "bu"
    refine macSet (m' := { m1 with going := .non }) kk.m h5 (by decide) rfl ?_
    exact hq
  | @secNon b c more a m1 h1 h2 h3 =>
    have h2' : s[x]? = some (Ob.ins k.CM macFs m1.l) := h2
    clear hm
    walk_at "bu"
    rw [h3]
    walk_at "bu"
    refine macSet (m' := { m1 with going := more }) kk.m h2 (by decide) rfl ?_
    exact hq
  | @secGo b c more a m1 h1 h2 h3 =>
    have h2' : s[x]? = some (Ob.ins k.CM macFs m1.l) := h2
    clear hm
    walk_at "bu"
    refine SL.isN h3 ?_
    walk_at "bu"
    exact hq
  | @bodyDone b c more a m1 h1 h2 h3 =>
    have h2' : s[x]? = some (Ob.ins k.CM macFs m1.l) := h2
    clear hm
    walk_at "bu"
    rw [h3]
    walk_at "bu"
    refine macSet (m' := { m1 with ending := .tup [.str "done"] }) kk.m h2 (by decide) rfl ?_
    exact hq
  | @bodyRaised b c more a m1 v z h1 h2 h3 h4 =>
    have h2' : s[x]? = some (Ob.ins k.CM macFs m1.l) := h2
    clear hm
    walk_at "bu"
    rw [h3]
    walk_at "bu"
    refine ⟨v, z, rfl, h4, ?_⟩
    walk_at "bu"
    refine macSet (m' := { m1 with ending := .tup [.str "raised", .str z] }) kk.m h2 (by decide) rfl ?_
    exact hq
  | @callRs b c more a m1 v h1 h2 h3 =>
    have h2' : s[x]? = some (Ob.ins k.CM macFs m1.l) := h2
    walk_at "bu"
    refine ⟨x, m1, l, s, b, c, more, a, rfl, h2, h1, .callRs h1 h2 h3, ?_⟩
    walk_at "bu"
    exact hq
  | @callGo b1 c1 more1 a1 m1 v sr th tx wt n ls l2 kd2 b2 c2 more2 a2 _ h1 h2 h3 h4 h5 h6 h7 h8 =>
    have h2' : s[x]? = some (Ob.ins k.CM macFs m1.l) := h2
    walk_at "bu"
    refine ⟨x, m1, l, _, _, _, _, _, rfl, h2, h1, .callGo h1 h2 h3 h4 h5 h6 h7 h8, ?_⟩
    walk_at "bu"
    exact hq
end
end SF
set_option Elab.async false
set_option linter.all false
set_option maxRecDepth 100000
set_option maxHeartbeats 4000000
/-! the machine over the store: _settle, _look, step -/
namespace SF
open PySem PySem.Spec PyProof.Rows L2 G0 SL
open C8 (Cal Mak Met pe_c pe_mk pe_mt pe_mt0 pe_gc)
/-- all levels that are done are left; the number says how many -/
inductive SetlR (k : Ks) (x : Nat) : Nat → Sto → Sto → Prop
  | empty {s m} : MacAt k s x m → s[m.lv]? = some (Ob.lst []) → SetlR k x 0 s s
  | stop {s m ls l kd blk c more a} : MacAt k s x m → s[m.lv]? = some (Ob.lst (ls ++ [.rf l])) → LevAt k s l kd (.tup blk) c more a → m.going = .non → a < blk.length → SetlR k x 0 s s
  | full {s m ls l kd blk c more a s1 n s'} : MacAt k s x m → s[m.lv]? = some (Ob.lst (ls ++ [.rf l])) → LevAt k s l kd (.tup blk) c more a → m.going = .non → ¬ a < blk.length → MacAt k (s.set m.lv (Ob.lst ls)) x m → LeaveR k (s.set m.lv (Ob.lst ls)) x l s1 → SetlR k x n s1 s' → SetlR k x (n + 1) s s'
  | out {s m ls l kd blk c more a s1 n s'} : MacAt k s x m → s[m.lv]? = some (Ob.lst (ls ++ [.rf l])) → LevAt k s l kd (.tup blk) c more a → isNon m.going = some false → MacAt k (s.set m.lv (Ob.lst ls)) x m → LeaveR k (s.set m.lv (Ob.lst ls)) x l s1 → SetlR k x n s1 s' → SetlR k x (n + 1) s s'
def WSettle (k : Ks) (s : Sto) (us : List U) (R : Sto → U → Prop) : Prop := ∃ x n s', us = [.rf x] ∧ SetlR k x n s s' ∧ R s' .non
def stepS (k : Ks) (s : Sto) (x : Nat) (m : Mv) : Sto := s.set x (Ob.ins k.CM macFs { m with steps := m.steps + 1 }.l)
def reachS (k : Ks) (s : Sto) (l : Nat) (kd : Str) (blk : U) (c : Nat) (more : U) (a : Int) : Sto := s.set l (Ob.ins k.CL lvlFs [.str kd, blk, .rf c, more, .int (a + 1)])
/-- a while is looked at -/
inductive LookR (k : Ks) (s : Sto) (x l : Nat) : U → Sto → Prop
  | no {kd b c more a t b2 m s1} : LevAt k s l kd b c more a → HoldR k s c t none s1 → MacAt k s1 x m → LookR k s x l (.tup [.str "while", t, b2]) (goingS k s1 x m nonameU)
  | yes {kd b c more a t b2 m s1 ls} : LevAt k s l kd b c more a → HoldR k s c t (some true) s1 → MacAt k s1 x m → LevAt k s1 l kd b c more a → s1[m.lv]? = some (Ob.lst ls) → ls.length < sizeLine → LookR k s x l (.tup [.str "while", t, b2]) (pushS k s1 m.lv ls [.str "plain", b2, .rf c, .non, .int 0])
  | off {kd b c more a t b2 s1} : LevAt k s l kd b c more a → HoldR k s c t (some false) s1 → LevAt k s1 l kd b c more a → LookR k s x l (.tup [.str "while", t, b2]) (reachS k s1 l kd b c more a)
def WLook (k : Ks) (s : Sto) (us : List U) (R : Sto → U → Prop) : Prop := ∃ x m l st s', us = [.rf x, .rf l, st] ∧ MacAt k s x m ∧ LookR k s x l st s' ∧ R s' .non
inductive StepR (k : Ks) (s : Sto) (x : Nat) : Sto → Prop
  | whl {m ls l kd blk c more a t b s2 m2 n s'} : MacAt k s x m → (stepS k s x m)[m.lv]? = some (Ob.lst (ls ++ [.rf l])) → LevAt k (stepS k s x m) l kd (.tup blk) c more a → atI blk a = some (.tup [.str "while", t, b]) → LookR k (stepS k s x m) x l (.tup [.str "while", t, b]) s2 → MacAt k s2 x m2 → SetlR k x n s2 s' → StepR k s x s'
  | row {m ls l kd blk c more a z r s3 m3 n s'} : MacAt k s x m → (stepS k s x m)[m.lv]? = some (Ob.lst (ls ++ [.rf l])) → LevAt k (stepS k s x m) l kd (.tup blk) c more a → atI blk a = some (.tup (.str z :: r)) → (z : Str) ≠ "while" → MacAt k (reachS k (stepS k s x m) l kd (.tup blk) c more a) x { m with steps := m.steps + 1 } → BegR k (reachS k (stepS k s x m) l kd (.tup blk) c more a) x c (.tup (.str z :: r)) s3 → MacAt k s3 x m3 → SetlR k x n s3 s' → StepR k s x s'
def WStep (k : Ks) (s : Sto) (us : List U) (R : Sto → U → Prop) : Prop := ∃ x s', us = [.rf x] ∧ StepR k s x s' ∧ R s' .non
section
variable {P : Program} {w : World} {K : PySem.W.Frag} {mg : Str → Option Value} {base : Heap}
set_option synthInstance.maxSize 100000
set_option synthInstance.maxHeartbeats 0
local macro_rules | `(tactic| walk_at "bvg2") => `(tactic| first
  | ((with_reducible refine And.intro (show List.length _ ≤ sizeLine from ?hz) ?_); (case hz => exact Nat.le_of_ble_eq_true rfl)) | ((with_reducible refine And.intro (show List.length _ < sizeLine from ?hz) ?_); (case hz => exact Nat.le_of_ble_eq_true rfl))
  | ((with_reducible refine RD.ifDT ?hd ?_); (case hd => first | decide +kernel | exact rfl)) | ((with_reducible refine RD.ifDF ?hd ?_); (case hd => first | decide +kernel | exact rfl))
  | ((with_reducible refine BV.catT ?hz ?_); (case hz => exact Nat.le_of_ble_eq_true rfl)) | ((with_reducible refine BV.catL ?hz ?_); (case hz => exact Nat.le_of_ble_eq_true rfl))
  | (with_reducible refine BV.ofN (BV.dNew ?_))
  | ((with_reducible apply BV.gtup); exact rfl)
  | ((with_reducible refine BV.vname ?hh ?_); (case hh => decide)) | ((with_reducible apply BV.vtup); exact rfl))
local macro_rules | `(tactic| walk_at "bvg1") => `(tactic| first
  | (with_reducible refine BV.strJoin ?_)
  | (with_reducible first | refine BV.i0 ?_ | refine BV.i0b ?_)
  | ((with_reducible apply BV.ixT); exact rfl) | (with_reducible refine BV.ixT BV.at0' ?_) | ((with_reducible apply BV.ixL); exact rfl)
  | ((with_reducible apply BV.lenO); exact rfl)
  | ((with_reducible refine BV.isi ?hh ?hp ?_); (case hh => decide +kernel); (case hp => exact rfl)) | ((with_reducible refine BV.isN ?hp ?_); (case hp => exact rfl)) | ((with_reducible refine BV.notN ?hp ?_); (case hp => exact rfl)))
local macro_rules | `(tactic| walk_at "bvg0") => `(tactic| first
  | ((with_reducible apply BV.var); exact rfl)
  | ((with_reducible apply BV.retO); exact rfl) | (with_reducible refine BV.ret ?_) | ((with_reducible apply BV.asgPop); exact rfl) | (with_reducible refine BV.asg ?_) | ((with_reducible apply BV.asgPopG); exact rfl) | (with_reducible refine BV.asgG ?_)
  | ((with_reducible apply BV.append); exact rfl) | ((with_reducible apply BV.extend); exact rfl) | ((with_reducible apply BV.augI); exact rfl) | ((with_reducible apply BV.truO); exact rfl) | (with_reducible refine BV.dropE ?_)
  | ((with_reducible refine BV.isiT2 ?h1 ?h2 ?_); (case h1 => decide +kernel); (case h2 => decide +kernel)) | ((with_reducible refine And.intro (show isPlainB _ = true from ?hz) ?_); (case hz => exact rfl)) | ((with_reducible refine BV.listVals ?hu ?_); (case hu => trivial)))
local macro_rules | `(tactic| walk_at "bvgu") => `(tactic| first
  | ((with_reducible apply SL.ixT); exact rfl) | (with_reducible refine SL.ixT SL.at0U ?_) | (with_reducible refine SL.ixT SL.at1U ?_)
  | ((with_reducible apply SL.fldAt); (case hs => assumption); (case kc => assumption); (case hf => decide); (case hu => exact rfl))
  | ((with_reducible apply SL.methAt); (case hs => assumption); (case hm => decide)))
local macro_rules | `(tactic| walk_at "bv1") => `(tactic| first | (with_reducible refine BVSt.mp ?_) | walk_at "bvg0" | walk_at "bvg1" | walk_at "bvg2")
local macro_rules | `(tactic| walk_at "bv") => `(tactic| repeat first | (with_reducible refine bvRun ?_) | (with_reducible refine BVSt.mp ?_) | walk_at "bvg0" | walk_at "bvg1" | walk_at "bvg2")
local macro_rules | `(tactic| walk_at "bu") => `(tactic| repeat first | (with_reducible refine bvRun ?_) | (with_reducible refine BVSt.mp ?_) | walk_at "bvgu" | walk_at "bvg0" | walk_at "bvg1" | walk_at "bvg2")
theorem sc_Machine__settle : FnScope ["self", "level"] ["self"] (defScope (inClass (topS 57) 19)) := ⟨rfl, rfl, rfl, by decide +kernel, rfl, by decide +kernel, by decide +kernel⟩
theorem ok_MSettle (T : TxtR K mg) {k : Ks} (kk : KsOk K k) (me__leave : Met P w K mg base 5 k.CM "_leave" (SpU K (WLeave k)) []) {f : Addr} {fd : FuncData} (F : Fun K "_settle" "Machine._settle" (inClass (topS 57) 19) f fd) : FnOk P w K mg base CX0 6 f fd ["self"] (SpU K (WSettle k)) := by
  refine F.ok sc_Machine__settle (fun vs H Q E h => SL.spLen (fun s us R hW => by obtain ⟨x, n, s', rfl, _⟩ := hW; rfl) h) (fun cdv A outer s H vs Q E hr h => ?_)
  have hu := hu_of hr
  refine ⟨_, (pss_one (ps_while PassesOwn.never (pt_truth (pe_fld (pv 0) rfl) (fun _ => rfl)) (pss_cons (ps_set (i := 1) sc_Machine__settle.nd rfl (Or.inl rfl) (pe_ix (r := rIxL K) ix_list (pe_fld (pv 0) rfl) (pe_un un_neg pe_int) (fun _ _ => rfl)))
      (pss_cons (ps_if ((pw_and (pt_cmpR op_isN1 (pe_fld (pv 0) rfl) pe_non (nomark _)) (pw_and1 (pt_cmpR op_lt (pe_fld (pv 1) rfl) (pe_callB (r := SF.rLenQ K) call_lenQ (by rfl) T.b_len PySem.boot_len (pa_cons (pe_fld (pv 1) rfl) pa_nil)) (nomark _))))).pt (pss_one ps_retN) pss_nil)
      (pss_cons (ps_expr (pe_bm0 PySem.F.plainAttrs_list PySem.F.slot_list_pop PySem.F.type_list_pop mt_pop (pe_fld (pv 0) rfl)))
      (pss_one (ps_expr (pe_mt me__leave hr (by decide) (pv 0) (pa_cons (pv 1) pa_nil))))))))), ?_⟩
  refine SL.body h _ fun s us R hW hl => ?_
  obtain ⟨x, n, s', rfl, hv, hq⟩ := hW
  change suS K _ s [some (.rf x), none] _
  try dsimp only [cxOf, Cx.nox]
  have km := kk.m
  have kl := kk.l
  walk_at "bu"
  refine SL.while_ (fun j s1 g => SetlR k x j s1 s' ∧ ∃ y, g = [some (.rf x), y]) n ⟨hv, _, rfl⟩ fun j s1 g hJ => ?_
  obtain ⟨hS, y, rfl⟩ := hJ
  cases hS with
  | @empty _ m h1 h2 =>
    have h1' : s'[x]? = some (Ob.ins k.CM macFs m.l) := h1
    refine SL.truL ?_
    walk_at "bu"
    refine ⟨m.lv, [], rfl, h2, ?_⟩
    walk_at "bu"
    exact hq
  | @stop _ m ls l kd blk c more a h1 h2 h3 h4 h5 =>
    have h1' : s'[x]? = some (Ob.ins k.CM macFs m.l) := h1
    refine SL.truL ?_
    walk_at "bu"
    refine ⟨m.lv, _, rfl, h2, ?_⟩
    rw [show (!(ls ++ [U.rf l]).isEmpty) = true by simp]
    walk_at "bu"
    refine SL.ixLast h2 ?_
    walk_at "bu"
    rw [h4]
    walk_at "bu"
    refine ite2 (fun q => ?_) (fun q => absurd (decide_eq_true h5) q)
    walk_at "bu"
    exact hq
  | @full _ m ls l kd blk c more a s2 n2 _ h1 h2 h3 h4 h5 h6 h7 h8 =>
    have h1' : s1[x]? = some (Ob.ins k.CM macFs m.l) := h1
    refine SL.truL ?_
    walk_at "bu"
    refine ⟨m.lv, _, rfl, h2, ?_⟩
    rw [show (!(ls ++ [U.rf l]).isEmpty) = true by simp]
    walk_at "bu"
    refine SL.ixLast h2 ?_
    walk_at "bu"
    rw [h4]
    walk_at "bu"
    refine ite2 (fun q => absurd (of_decide_eq_true q) h5) (fun q => ?_)
    walk_at "bu"
    refine SL.lstAt_and h2 ?_
    refine SL.pop h2 ?_
    have h6' : (s1.set m.lv (Ob.lst ls))[x]? = some (Ob.ins k.CM macFs m.l) := h6
    walk_at "bu"
    refine ⟨x, m, l, s2, rfl, h6, h7, ?_⟩
    walk_at "bu"
    exact ⟨n2, Nat.lt_succ_self _, h8, _, rfl⟩
  | @out _ m ls l kd blk c more a s2 n2 _ h1 h2 h3 h4 h6 h7 h8 =>
    have h1' : s1[x]? = some (Ob.ins k.CM macFs m.l) := h1
    refine SL.truL ?_
    walk_at "bu"
    refine ⟨m.lv, _, rfl, h2, ?_⟩
    rw [show (!(ls ++ [U.rf l]).isEmpty) = true by simp]
    walk_at "bu"
    refine SL.ixLast h2 ?_
    walk_at "bu"
    refine SL.isN h4 ?_
    walk_at "bu"
    refine SL.lstAt_and h2 ?_
    refine SL.pop h2 ?_
    have h6' : (s1.set m.lv (Ob.lst ls))[x]? = some (Ob.ins k.CM macFs m.l) := h6
    walk_at "bu"
    refine ⟨x, m, l, s2, rfl, h6, h7, ?_⟩
    walk_at "bu"
    exact ⟨n2, Nat.lt_succ_self _, h8, _, rfl⟩
theorem sc_Machine__look : FnScope ["self", "level", "statement", "holds"] ["self", "level", "statement"] (defScope (inClass (topS 57) 4)) := ⟨rfl, rfl, rfl, by decide +kernel, rfl, by decide +kernel, by decide +kernel⟩
theorem ok_MLook (T : TxtR K mg) {k : Ks} (kk : KsOk K k) (me__holds : Met P w K mg base 5 k.CM "_holds" (SpU K (WHolds k)) []) (me__raise : Met P w K mg base 1 k.CM "_raise" (SpU K (WRaise k)) []) (c_Level : Mak P w K mg base 1 "Level" k.CL (SpU K (WLvl k)) []) {f : Addr} {fd : FuncData} (F : Fun K "_look" "Machine._look" (inClass (topS 57) 4) f fd) : FnOk P w K mg base CX0 6 f fd ["self", "level", "statement"] (SpU K (WLook k)) := by
  refine F.ok sc_Machine__look (fun vs H Q E h => SL.spLen (fun s us R hW => by obtain ⟨x, m, l, st, s', rfl, _⟩ := hW; rfl) h) (fun cdv A outer s H vs Q E hr h => ?_)
  have hu := hu_of hr
  refine ⟨_, (pss_cons (ps_set (i := 3) sc_Machine__look.nd rfl (Or.inl rfl) (pe_mt me__holds hr (by decide) (pv 0) (pa_cons (pe_ix (r := rIxT K) ix_tup (pv 2) pe_int (fun _ _ => rfl)) (pa_cons (pe_fld (pv 1) rfl) pa_nil))))
      (pss_one (ps_if (pt_cmpR op_isN1 (pv 3) pe_non (nomark _)) (pss_one (ps_expr (pe_mt me__raise hr (by decide) (pv 0) (pa_cons pe_str pa_nil)))) (pss_one (ps_if (pt_val (pv 3)) (pss_one (ps_expr (pe_bm PySem.F.plainAttrs_list PySem.F.slot_list_append PySem.F.type_list_append mt_append (pe_fld (pv 0) rfl) (pa_cons (pe_mk c_Level hr (by decide) (by rfl) (pa_cons pe_str (pa_cons (pe_ix (r := rIxT K) ix_tup (pv 2) pe_int (fun _ _ => rfl)) (pa_cons (pe_fld (pv 1) rfl) (pa_cons pe_non pa_nil))))) pa_nil)))) (pss_one (ps_fldaug (pv 1) pe_int in_add))))))), ?_⟩
  refine SL.body h _ fun s us R hW hl => ?_
  obtain ⟨x, m, l, st, s', rfl, hm, hh, hq⟩ := hW
  change suS K _ s [some (.rf x), some (.rf l), some st, none] _
  try dsimp only [cxOf, Cx.nox]
  have kl := kk.l
  have km := kk.m
  have hm' : s[x]? = some (Ob.ins k.CM macFs m.l) := hm
  cases hh with
  | @no kd b c more a t b2 m1 s1 h0 h1 h2 =>
    have h2' : s1[x]? = some (Ob.ins k.CM macFs m1.l) := h2
    walk_at "bu"
    refine ⟨x, c, m, _, _, s1, rfl, hm, h1, ?_⟩
    dsimp only [optBU]
    walk_at "bu"
    refine ⟨x, _, m1, rfl, h2, ?_⟩
    walk_at "bu"
    exact hq
  | @yes kd b c more a t b2 m1 s1 ls h0 h1 h2 h3 h4 h5 =>
    have h2' : s1[x]? = some (Ob.ins k.CM macFs m1.l) := h2
    obtain ⟨n1, n2, n3⟩ := new_lv (k := k) (d := [.str "plain", b2, .rf c, .non, .int 0]) h4
    walk_at "bu"
    refine ⟨x, c, m, _, _, s1, rfl, hm, h1, ?_⟩
    dsimp only [optBU]
    walk_at "bu"
    refine SL.lstAt_and h4 ?_
    walk_at "bu"
    refine ⟨_, _, _, _, _, rfl, n1, rfl, ?_⟩
    walk_at "bu"
    refine SL.append n2 ⟨h5, ?_⟩
    rw [← n3] at hq
    exact hq
  | @off kd b c more a t b2 s1 h0 h1 h2 =>
    walk_at "bu"
    refine ⟨x, c, m, _, _, s1, rfl, hm, h1, ?_⟩
    dsimp only [optBU]
    walk_at "bu"
    refine SL.faug ?_
    walk_at "bu"
    refine ⟨l, _, _, _, _, rfl, h2, kk.l.cl, kk.l.no "reached" (by decide), rfl, ?_⟩
    walk_at "bu"
    exact ⟨_, _, h2, by decide, hq⟩
theorem sc_Machine_step : FnScope ["self", "level", "statement"] ["self"] (defScope (inClass (topS 57) 3)) := ⟨rfl, rfl, rfl, by decide +kernel, rfl, by decide +kernel, by decide +kernel⟩
theorem ok_MStep (T : TxtR K mg) {k : Ks} (kk : KsOk K k) (me__look : Met P w K mg base 6 k.CM "_look" (SpU K (WLook k)) []) (me__begin : Met P w K mg base 7 k.CM "_begin" (SpU K (WBeg k)) []) (me__settle : Met P w K mg base 6 k.CM "_settle" (SpU K (WSettle k)) []) {f : Addr} {fd : FuncData} (F : Fun K "step" "Machine.step" (inClass (topS 57) 3) f fd) : FnOk P w K mg base CX0 8 f fd ["self"] (SpU K (WStep k)) := by
  refine F.ok sc_Machine_step (fun vs H Q E h => SL.spLen (fun s us R hW => by obtain ⟨x, s', rfl, _⟩ := hW; rfl) h) (fun cdv A outer s H vs Q E hr h => ?_)
  have hu := hu_of hr
  refine ⟨_, (pss_cons (ps_fldaug (pv 0) pe_int in_add)
      (pss_cons (ps_set (i := 1) sc_Machine_step.nd rfl (Or.inl rfl) (pe_ix (r := rIxL K) ix_list (pe_fld (pv 0) rfl) (pe_un un_neg pe_int) (fun _ _ => rfl)))
      (pss_cons (ps_set (i := 2) sc_Machine_step.nd rfl (Or.inl rfl) (pe_ix (r := rIxT K) ix_tup (pe_fld (pv 1) rfl) (pe_fld (pv 1) rfl) (fun _ _ => rfl)))
      (pss_cons (ps_if (pt_cmpR op_eq (pe_ix (r := rIxT K) ix_tup (pv 2) pe_int (fun _ _ => rfl)) pe_str (nomark _)) (pss_one (ps_expr (pe_mt me__look hr (by decide) (pv 0) (pa_cons (pv 1) (pa_cons (pv 2) pa_nil))))) (pss_cons (ps_fldaug (pv 1) pe_int in_add)
      (pss_one (ps_expr (pe_mt me__begin hr (by decide) (pv 0) (pa_cons (pv 2) (pa_cons (pe_fld (pv 1) rfl) pa_nil)))))))
      (pss_one (ps_expr (pe_mt0 me__settle hr (by decide) (pv 0)))))))), ?_⟩
  refine SL.body h _ fun s us R hW hl => ?_
  obtain ⟨x, s', rfl, hh, hq⟩ := hW
  change suS K _ s [some (.rf x), none, none] _
  try dsimp only [cxOf, Cx.nox]
  have kl := kk.l
  have km := kk.m
  cases hh with
  | @whl m ls l kd blk c more a t b s2 m2 n _ h1 h2 h3 h4 h5 h6 h7 =>
    have h1' : s[x]? = some (Ob.ins k.CM macFs m.l) := h1
    walk_at "bu"
    refine SL.faug ?_
    walk_at "bu"
    refine ⟨x, _, _, _, _, rfl, h1', kk.m.cl, kk.m.no "steps" (by decide), rfl, ?_⟩
    walk_at "bu"
    refine ⟨_, _, h1', by decide, ?_⟩
    have hx1 : (stepS k s x m)[x]? = some (Ob.ins k.CM macFs { m with steps := m.steps + 1 }.l) := List.getElem?_set_self (List.getElem?_eq_some_iff.mp h1').1
    change suS K _ (stepS k s x m) _ _
    generalize stepS k s x m = s1 at h2 h3 h5 hx1
    clear h1 h1'
    walk_at "bu"
    refine SL.ixLast h2 ?_
    walk_at "bu"
    refine SL.ixT h4 ?_
    walk_at "bu"
    refine ⟨x, _, l, _, s2, rfl, hx1, h5, ?_⟩
    have h6' : s2[x]? = some (Ob.ins k.CM macFs m2.l) := h6
    walk_at "bu"
    refine ⟨x, n, s', rfl, h7, ?_⟩
    walk_at "bu"
    exact hq
  | @row m ls l kd blk c more a z r s3 m3 n _ h1 h2 h3 h4 h5 h6 h7 h8 h9 =>
    have h1' : s[x]? = some (Ob.ins k.CM macFs m.l) := h1
    walk_at "bu"
    refine SL.faug ?_
    walk_at "bu"
    refine ⟨x, _, _, _, _, rfl, h1', kk.m.cl, kk.m.no "steps" (by decide), rfl, ?_⟩
    walk_at "bu"
    refine ⟨_, _, h1', by decide, ?_⟩
    have hx1 : (stepS k s x m)[x]? = some (Ob.ins k.CM macFs { m with steps := m.steps + 1 }.l) := List.getElem?_set_self (List.getElem?_eq_some_iff.mp h1').1
    change suS K _ (stepS k s x m) _ _
    generalize stepS k s x m = s1 at h2 h3 h6 h7 hx1
    clear h1 h1'
    walk_at "bu"
    refine SL.ixLast h2 ?_
    walk_at "bu"
    refine SL.ixT h4 ?_
    walk_at "bu"
    rw [if_neg (by rw [decide_eq_false h5]; exact Bool.false_ne_true)]
    walk_at "bu"
    refine SL.faug ?_
    walk_at "bu"
    refine ⟨l, _, _, _, _, rfl, h3, kk.l.cl, kk.l.no "reached" (by decide), rfl, ?_⟩
    walk_at "bu"
    refine ⟨_, _, h3, by decide, ?_⟩
    have hl1 : (reachS k s1 l kd (.tup blk) c more a)[l]? = some (Ob.ins k.CL lvlFs [.str kd, .tup blk, .rf c, more, .int (a + 1)]) := List.getElem?_set_self (List.getElem?_eq_some_iff.mp h3).1
    change suS K _ (reachS k s1 l kd (.tup blk) c more a) _ _
    generalize reachS k s1 l kd (.tup blk) c more a = s2 at h6 h7 hl1
    have h6' : s2[x]? = some (Ob.ins k.CM macFs { m with steps := m.steps + 1 }.l) := h6
    clear hx1
    walk_at "bu"
    refine ⟨x, c, _, _, s3, rfl, h6, h7, ?_⟩
    have h8' : s3[x]? = some (Ob.ins k.CM macFs m3.l) := h8
    walk_at "bu"
    refine ⟨x, n, s', rfl, h9, ?_⟩
    walk_at "bu"
    exact hq
end
end SF
set_option Elab.async false
set_option linter.all false
set_option maxRecDepth 100000
set_option maxHeartbeats 4000000
/-! the machine over the store: a program without classes; how a machine begins -/
namespace SF
open PySem PySem.Spec PyProof.Rows L2 G0 SL
open C8 (Cal Mak Met pe_c pe_mk pe_mt pe_mt0 pe_gc)
def prgFs : List Str := ["_classes", "body"]
/-- a program without classes stands at p -/
def PrgAt (CP : Addr) (s : Sto) (p c : Nat) (blk : List U) : Prop := s[p]? = some (Ob.ins CP prgFs [.rf c, .tup blk]) ∧ s[c]? = some (Ob.dct [] [])
def WCopies (s : Sto) (us : List U) (R : Sto → U → Prop) : Prop := ∃ c, us = [.rf c] ∧ s[c]? = some (Ob.dct [] []) ∧ R (s ++ [Ob.dct [] []]) (.rf s.length)
def WGetCl (CP : Addr) (s : Sto) (us : List U) (R : Sto → U → Prop) : Prop := ∃ p c blk, us = [.rf p] ∧ PrgAt CP s p c blk ∧ R (s ++ [Ob.dct [] []]) (.rf s.length)
structure PropC (P : Program) (w : World) (K : PySem.W.Frag) (mg : Str → Option Value) (base : Heap) (k : Nat) (C : Addr) (f : Str) (sp : Sp) : Prop where
  at_ : ∃ (p g : Addr) (fd : FuncData), PropOf K C f p g ∧ FnOk P w K mg base CX0 k g fd ["self"] sp ∧ Binds K fd ["self"] []
/-- what a machine is made with -/
def iniM (n : Nat) : Mv := ⟨n, n + 1, n + 4, n + 6, .non, 0, n + 7, 0, .non⟩
def iniO (k : Ks) (n : Nat) (blk : List U) : List Ob := [.dct [] [], .dct [] [], .ins k.CS surFs [.non, .rf (n + 3)], .dct [] [], .ins k.CC calFs [.rf (n + 2), .non, .non, .non, .int 0], .ins k.CL lvlFs [.str "body", .tup blk, .rf (n + 4), .non, .int 0], .lst [.rf (n + 5)], .lst []]
def iniS (k : Ks) (s : Sto) (x : Nat) (blk : List U) : Sto := s.set x (.ins k.CM macFs (iniM s.length).l) ++ iniO k s.length blk
def WMac (k : Ks) (CP : Addr) (s : Sto) (us : List U) (R : Sto → U → Prop) : Prop := ∃ x p c blk n s', us = [.rf x, .rf p] ∧ s[x]? = some (Ob.ins k.CM [] []) ∧ PrgAt CP s p c blk ∧ SetlR k x n (iniS k s x blk) s' ∧ R s' .non
theorem nf1 {s l : Sto} {x : Nat} {a b : Ob} (h : x < s.length) : (s.set x a ++ l).set x b = s.set x b ++ l := by rw [List.set_append_left _ _ (by rw [List.length_set]; exact h), List.set_set]
theorem nf2 {s l : Sto} {x : Nat} {b : Ob} (h : x < s.length) : (s ++ l).set x b = s.set x b ++ l := List.set_append_left _ _ h
theorem nf3 {s l : Sto} {x j : Nat} {a b : Ob} : (s.set x a ++ l).set (s.length + j) b = s.set x a ++ l.set j b := by rw [List.set_append_right _ _ (by rw [List.length_set]; omega), List.length_set, Nat.add_sub_cancel_left]
theorem atx {s l : Sto} {x : Nat} {a : Ob} (h : x < s.length) : (s.set x a ++ l)[x]? = some a := by rw [List.getElem?_append_left (by rw [List.length_set]; exact h), List.getElem?_set_self h]
theorem atp {s l : Sto} {x p : Nat} {a b : Ob} (n : x ≠ p) (h : s[p]? = some b) : (s.set x a ++ l)[p]? = some b := by rw [List.getElem?_append_left (by rw [List.length_set]; exact (List.getElem?_eq_some_iff.mp h).1), List.getElem?_set_ne n]; exact h
theorem atn {s l : Sto} {x j : Nat} {a : Ob} : (s.set x a ++ l)[s.length + j]? = l[j]? := by rw [List.getElem?_append_right (by rw [List.length_set]; omega), List.length_set, Nat.add_sub_cancel_left]
section
variable {P : Program} {w : World} {K : PySem.W.Frag} {mg : Str → Option Value} {base : Heap}
set_option synthInstance.maxSize 100000
set_option synthInstance.maxHeartbeats 0
local macro_rules | `(tactic| walk_at "bvg2") => `(tactic| first
  | ((with_reducible refine And.intro (show List.length _ ≤ sizeLine from ?hz) ?_); (case hz => exact Nat.le_of_ble_eq_true rfl)) | ((with_reducible refine And.intro (show List.length _ < sizeLine from ?hz) ?_); (case hz => exact Nat.le_of_ble_eq_true rfl))
  | ((with_reducible refine RD.ifDT ?hd ?_); (case hd => first | decide +kernel | exact rfl)) | ((with_reducible refine RD.ifDF ?hd ?_); (case hd => first | decide +kernel | exact rfl))
  | ((with_reducible refine BV.catT ?hz ?_); (case hz => exact Nat.le_of_ble_eq_true rfl)) | ((with_reducible refine BV.catL ?hz ?_); (case hz => exact Nat.le_of_ble_eq_true rfl))
  | (with_reducible refine BV.ofN (BV.dNew ?_))
  | ((with_reducible apply BV.gtup); exact rfl)
  | ((with_reducible refine BV.vname ?hh ?_); (case hh => decide)) | ((with_reducible apply BV.vtup); exact rfl))
local macro_rules | `(tactic| walk_at "bvg1") => `(tactic| first
  | (with_reducible refine BV.strJoin ?_)
  | (with_reducible first | refine BV.i0 ?_ | refine BV.i0b ?_)
  | ((with_reducible apply BV.ixT); exact rfl) | (with_reducible refine BV.ixT BV.at0' ?_) | ((with_reducible apply BV.ixL); exact rfl)
  | ((with_reducible apply BV.lenO); exact rfl)
  | ((with_reducible refine BV.isi ?hh ?hp ?_); (case hh => decide +kernel); (case hp => exact rfl)) | ((with_reducible refine BV.isN ?hp ?_); (case hp => exact rfl)) | ((with_reducible refine BV.notN ?hp ?_); (case hp => exact rfl)))
local macro_rules | `(tactic| walk_at "bvg0") => `(tactic| first
  | ((with_reducible apply BV.var); exact rfl)
  | ((with_reducible apply BV.retO); exact rfl) | (with_reducible refine BV.ret ?_) | ((with_reducible apply BV.asgPop); exact rfl) | (with_reducible refine BV.asg ?_) | ((with_reducible apply BV.asgPopG); exact rfl) | (with_reducible refine BV.asgG ?_)
  | ((with_reducible apply BV.append); exact rfl) | ((with_reducible apply BV.extend); exact rfl) | ((with_reducible apply BV.augI); exact rfl) | ((with_reducible apply BV.truO); exact rfl) | (with_reducible refine BV.dropE ?_)
  | ((with_reducible refine BV.isiT2 ?h1 ?h2 ?_); (case h1 => decide +kernel); (case h2 => decide +kernel)) | ((with_reducible refine And.intro (show isPlainB _ = true from ?hz) ?_); (case hz => exact rfl)) | ((with_reducible refine BV.listVals ?hu ?_); (case hu => trivial)))
local macro_rules | `(tactic| walk_at "bvgu") => `(tactic| first
  | ((with_reducible apply SL.ixT); exact rfl) | (with_reducible refine SL.ixT SL.at0U ?_) | (with_reducible refine SL.ixT SL.at1U ?_)
  | ((with_reducible apply SL.fldAt); (case hs => assumption); (case kc => assumption); (case hf => decide); (case hu => exact rfl))
  | ((with_reducible apply SL.methAt); (case hs => assumption); (case hm => decide)))
local macro_rules | `(tactic| walk_at "bv1") => `(tactic| first | (with_reducible refine BVSt.mp ?_) | walk_at "bvg0" | walk_at "bvg1" | walk_at "bvg2")
local macro_rules | `(tactic| walk_at "bv") => `(tactic| repeat first | (with_reducible refine bvRun ?_) | (with_reducible refine BVSt.mp ?_) | walk_at "bvg0" | walk_at "bvg1" | walk_at "bvg2")
local macro_rules | `(tactic| walk_at "bu") => `(tactic| repeat first | (with_reducible refine bvRun ?_) | (with_reducible refine BVSt.mp ?_) | walk_at "bvgu" | walk_at "bvg0" | walk_at "bvg1" | walk_at "bvg2")
theorem sc__copied_classes : FnScope ["classes", "name", "cls"] ["classes"] (defScope (topS 62)) := ⟨rfl, rfl, rfl, by decide +kernel, rfl, by decide +kernel, by decide +kernel⟩
theorem ok_copies (T : TxtR K mg) {f : Addr} {fd : FuncData} (F : Fun K "_copied_classes" "_copied_classes" (topS 62) f fd) : FnOk P w K mg base CX0 2 f fd ["classes"] (SpU K WCopies) := by
  refine F.ok sc__copied_classes (fun vs H Q E h => SL.spLen (fun s us R hW => by obtain ⟨c, rfl, _⟩ := hW; rfl) h) (fun cdv A outer s H vs Q E hr h => ?_)
  have hu := hu_of hr
  refine ⟨_, (pss_one (ps_ret (pe_lock (pe_dc (own := [("name", 1), ("cls", 2)]) (g := (gTup K 2 (gCons (gName 1) (gCons (gName 2) gNil)))) (tt := tYes) rfl sc__copied_classes.nd (pi_items (pv 0)) (blkOk_by (N := ["classes", "name", "cls"]) (sc := defScope (topS 62)) (by decide +kernel)) (fun _ _ _ _ _ => (pg_tup rfl (pgs_cons (pg_name (i := 1) sc__copied_classes.nd rfl (Or.inl rfl)) (pgs_cons (pg_name (i := 2) sc__copied_classes.nd rfl (Or.inl rfl)) pgs_nil)))) (fun _ _ _ _ _ => pts_nil) (fun _ _ _ _ _ => (pv 1)) (fun _ _ _ _ _ => SL.pe_never))))), ?_⟩
  refine SL.body h _ fun s us R hW hl => ?_
  obtain ⟨c, rfl, hs, hq⟩ := hW
  change suS K _ s [some (.rf c), none, none] _
  try dsimp only [cxOf, Cx.nox]
  walk_at "bu"
  refine dc0i (gd_var rfl) hs ?_
  exact hq
theorem sc_Program_classes : FnScope ["self"] ["self"] (defScope (inClass (topS 61) 1)) := ⟨rfl, rfl, rfl, by decide +kernel, rfl, by decide +kernel, by decide +kernel⟩
theorem ok_getCl (T : TxtR K mg) {CP : Addr} (kp : KC K CP prgFs) (c__copied_classes : Cal P w K mg base 2 "_copied_classes" (SpU K WCopies) []) {f : Addr} {fd : FuncData} (F : Fun K "classes" "Program.classes" (inClass (topS 61) 1) f fd) : FnOk P w K mg base CX0 3 f fd ["self"] (SpU K (WGetCl CP)) := by
  refine F.ok sc_Program_classes (fun vs H Q E h => SL.spLen (fun s us R hW => by obtain ⟨p, c, blk, rfl, _⟩ := hW; rfl) h) (fun cdv A outer s H vs Q E hr h => ?_)
  have hu := hu_of hr
  refine ⟨_, (pss_one (ps_ret (pe_c c__copied_classes hr (by decide) (by rfl) (pa_cons (pe_fld (pv 0) rfl) pa_nil)))), ?_⟩
  refine SL.body h _ fun s us R hW hl => ?_
  obtain ⟨p, c, blk, rfl, ⟨h1, h2⟩, hq⟩ := hW
  change suS K _ s [some (.rf p)] _
  try dsimp only [cxOf, Cx.nox]
  walk_at "bu"
  exact ⟨c, rfl, h2, hq⟩
theorem sc_Machine___init__ : FnScope ["self", "program", "name"] ["self", "program"] (defScope (inClass (topS 57) 0)) := ⟨rfl, rfl, rfl, by decide +kernel, rfl, by decide +kernel, by decide +kernel⟩
theorem ok_Mac (T : TxtR K mg) {k : Ks} (kk : KsOk K k) {CP : Addr} (kp : KC K CP prgFs) (pg : PropC P w K mg base 3 CP "classes" (SpU K (WGetCl CP))) (c_Call : Mak P w K mg base 1 "Call" k.CC (SpU K (WCal k)) []) (c_Surroundings : Mak P w K mg base 1 "Surroundings" k.CS (SpU K (WSur k)) []) (c_Level : Mak P w K mg base 1 "Level" k.CL (SpU K (WLvl k)) []) (me__settle : Met P w K mg base 6 k.CM "_settle" (SpU K (WSettle k)) []) {f : Addr} {fd : FuncData} (F : Fun K "__init__" "Machine.__init__" (inClass (topS 57) 0) f fd) : FnOk P w K mg base CX0 7 f fd ["self", "program"] (SpU K (WMac k CP)) := by
  refine F.ok sc_Machine___init__ (fun vs H Q E h => SL.spLen (fun s us R hW => by obtain ⟨x, p, c, blk, n, s', rfl, _⟩ := hW; rfl) h) (fun cdv A outer s H vs Q E hr h => ?_)
  have hu := hu_of hr
  obtain ⟨pp, gg, fdG, PG, GG, bG⟩ := pg.at_
  have hr4 := hr.mono (show 4 ≤ 6 by decide)
  refine ⟨_, (pss_cons (ps_fld (pv 0) (pe_prop (pv 1) kp.cl PG GG hr4 bG .nil pass0 rfl) rfl)
      (pss_cons (ps_fld (pv 0) (pe_lock (pe_dc (own := [("name", 2)]) (g := (gName 2)) (tt := tYes) rfl sc_Machine___init__.nd (pi_keys (pe_fld (pv 0) rfl)) (blkOk_by (N := ["self", "program", "name"]) (sc := defScope (inClass (topS 57) 0)) (by decide +kernel)) (fun _ _ _ _ _ => (pg_name (i := 2) sc_Machine___init__.nd rfl (Or.inl rfl))) (fun _ _ _ _ _ => pts_nil) (fun _ _ _ _ _ => (pv 2)) (fun _ _ _ _ _ => SL.pe_never))) rfl)
      (pss_cons (ps_fld (pv 0) (pe_mk c_Call hr (by decide) (by rfl) (pa_cons (pe_mk c_Surroundings hr (by decide) (by rfl) (pa_cons pe_non pa_nil)) (pa_cons pe_non (pa_cons pe_non (pa_cons pe_non (pa_cons pe_int pa_nil)))))) rfl)
      (pss_cons (ps_fld (pv 0) (pe_lst (pa_cons (pe_mk c_Level hr (by decide) (by rfl) (pa_cons pe_str (pa_cons (pe_fld (pv 1) rfl) (pa_cons (pe_fld (pv 0) rfl) (pa_cons pe_non pa_nil))))) pa_nil)) rfl)
      (pss_cons (ps_fld (pv 0) pe_non rfl)
      (pss_cons (ps_fld (pv 0) pe_int rfl)
      (pss_cons (ps_fld (pv 0) (pe_lst pa_nil) rfl)
      (pss_cons (ps_fld (pv 0) pe_int rfl)
      (pss_cons (ps_fld (pv 0) pe_non rfl)
      (pss_one (ps_expr (pe_mt0 me__settle hr (by decide) (pv 0))))))))))))), ?_⟩
  refine SL.body h _ fun s us R hW hl => ?_
  obtain ⟨x, p, c, blk, n, s', rfl, hs, hp, hv, hq⟩ := hW
  change suS K _ s [some (.rf x), some (.rf p), none] _
  try dsimp only [cxOf, Cx.nox]
  have hx := (List.getElem?_eq_some_iff.mp hs).1
  have km := kk.m
  have ne : x ≠ p := fun z => by rw [z, hp.1] at hs; simp [prgFs] at hs
  walk_at "bu"
  refine SL.prop ?_
  walk_at "bu"
  refine ⟨p, _, _, rfl, hp.1, p, c, blk, rfl, hp, ?_⟩
  walk_at "bu"
  have e0 : (s ++ [Ob.dct [] []])[x]? = some (Ob.ins k.CM [] []) := by rw [List.getElem?_append_left hx]; exact hs
  refine setAt (fs' := ["_classes"]) (ds' := [.rf s.length]) km e0 (by decide) (by decide) rfl ?_
  rw [nf2 hx]
  walk_at "bu"
  refine dc0 (gd_fld (ds := [.rf s.length]) km rfl (atx hx) (by decide) rfl (atn (j := 0))) (atn (j := 0)) ?_
  walk_at "bu"
  simp only [List.length_append, List.length_set, List.length_cons, List.length_nil, Nat.zero_add, Nat.add_assoc, Nat.reduceAdd, List.append_assoc, List.cons_append, List.nil_append, nf1 hx, nf3, List.set_cons_succ, List.set_cons_zero]
  refine setAt (fs' := ["_classes", "_chains"]) (ds' := [.rf s.length, .rf (s.length + 1)]) km (atx hx) (by decide) (by decide) rfl ?_
  simp only [List.length_append, List.length_set, List.length_cons, List.length_nil, Nat.zero_add, Nat.add_assoc, Nat.reduceAdd, List.append_assoc, List.cons_append, List.nil_append, nf1 hx, nf3, List.set_cons_succ, List.set_cons_zero]
  walk_at "bu"
  refine ⟨_, _, rfl, newAt, rfl, ?_⟩
  walk_at "bu"
  refine ⟨_, _, _, _, _, _, rfl, newAt, rfl, ?_⟩
  simp only [List.length_append, List.length_set, List.length_cons, List.length_nil, Nat.zero_add, Nat.add_assoc, Nat.reduceAdd, List.append_assoc, List.cons_append, List.nil_append, nf1 hx, nf3, List.set_cons_succ, List.set_cons_zero]
  walk_at "bu"
  refine setAt (fs' := ["_classes", "_chains", "_body"]) (ds' := [.rf s.length, .rf (s.length + 1), .rf (s.length + 4)]) km (atx hx) (by decide) (by decide) rfl ?_
  simp only [List.length_append, List.length_set, List.length_cons, List.length_nil, Nat.zero_add, Nat.add_assoc, Nat.reduceAdd, List.append_assoc, List.cons_append, List.nil_append, nf1 hx, nf3, List.set_cons_succ, List.set_cons_zero]
  walk_at "bu"
  refine fldAt kp (atp ne hp.1) (by decide) rfl ?_
  walk_at "bu"
  refine fldAt km (atx hx) (by decide) rfl ?_
  walk_at "bu"
  refine ⟨_, _, _, _, _, rfl, newAt, rfl, ?_⟩
  simp only [List.length_append, List.length_set, List.length_cons, List.length_nil, Nat.zero_add, Nat.add_assoc, Nat.reduceAdd, List.append_assoc, List.cons_append, List.nil_append, nf1 hx, nf3, List.set_cons_succ, List.set_cons_zero]
  walk_at "bu"
  simp only [List.length_append, List.length_set, List.length_cons, List.length_nil, Nat.zero_add, Nat.add_assoc, Nat.reduceAdd, List.append_assoc, List.cons_append, List.nil_append, nf1 hx, nf3, List.set_cons_succ, List.set_cons_zero]
  refine ⟨by decide, ?_⟩
  walk_at "bu"
  refine setAt (fs' := ["_classes", "_chains", "_body", "_levels"]) (ds' := [.rf s.length, .rf (s.length + 1), .rf (s.length + 4), .rf (s.length + 6)]) km (atx hx) (by decide) (by decide) rfl ?_
  simp only [List.length_append, List.length_set, List.length_cons, List.length_nil, Nat.zero_add, Nat.add_assoc, Nat.reduceAdd, List.append_assoc, List.cons_append, List.nil_append, nf1 hx, nf3, List.set_cons_succ, List.set_cons_zero]
  walk_at "bu"
  refine setAt (fs' := ["_classes", "_chains", "_body", "_levels", "_going"]) (ds' := [.rf s.length, .rf (s.length + 1), .rf (s.length + 4), .rf (s.length + 6), .non]) km (atx hx) (by decide) (by decide) rfl ?_
  simp only [List.length_append, List.length_set, List.length_cons, List.length_nil, Nat.zero_add, Nat.add_assoc, Nat.reduceAdd, List.append_assoc, List.cons_append, List.nil_append, nf1 hx, nf3, List.set_cons_succ, List.set_cons_zero]
  walk_at "bu"
  refine setAt (fs' := ["_classes", "_chains", "_body", "_levels", "_going", "steps"]) (ds' := [.rf s.length, .rf (s.length + 1), .rf (s.length + 4), .rf (s.length + 6), .non, .int 0]) km (atx hx) (by decide) (by decide) rfl ?_
  simp only [List.length_append, List.length_set, List.length_cons, List.length_nil, Nat.zero_add, Nat.add_assoc, Nat.reduceAdd, List.append_assoc, List.cons_append, List.nil_append, nf1 hx, nf3, List.set_cons_succ, List.set_cons_zero]
  walk_at "bu"
  simp only [List.length_append, List.length_set, List.length_cons, List.length_nil, Nat.zero_add, Nat.add_assoc, Nat.reduceAdd, List.append_assoc, List.cons_append, List.nil_append, nf1 hx, nf3, List.set_cons_succ, List.set_cons_zero]
  refine setAt (fs' := ["_classes", "_chains", "_body", "_levels", "_going", "steps", "printed"]) (ds' := [.rf s.length, .rf (s.length + 1), .rf (s.length + 4), .rf (s.length + 6), .non, .int 0, .rf (s.length + 7)]) km (atx hx) (by decide) (by decide) rfl ?_
  simp only [List.length_append, List.length_set, List.length_cons, List.length_nil, Nat.zero_add, Nat.add_assoc, Nat.reduceAdd, List.append_assoc, List.cons_append, List.nil_append, nf1 hx, nf3, List.set_cons_succ, List.set_cons_zero]
  walk_at "bu"
  refine setAt (fs' := ["_classes", "_chains", "_body", "_levels", "_going", "steps", "printed", "deepest"]) (ds' := [.rf s.length, .rf (s.length + 1), .rf (s.length + 4), .rf (s.length + 6), .non, .int 0, .rf (s.length + 7), .int 0]) km (atx hx) (by decide) (by decide) rfl ?_
  simp only [List.length_append, List.length_set, List.length_cons, List.length_nil, Nat.zero_add, Nat.add_assoc, Nat.reduceAdd, List.append_assoc, List.cons_append, List.nil_append, nf1 hx, nf3, List.set_cons_succ, List.set_cons_zero]
  walk_at "bu"
  refine setAt (fs' := ["_classes", "_chains", "_body", "_levels", "_going", "steps", "printed", "deepest", "ending"]) (ds' := [.rf s.length, .rf (s.length + 1), .rf (s.length + 4), .rf (s.length + 6), .non, .int 0, .rf (s.length + 7), .int 0, .non]) km (atx hx) (by decide) (by decide) rfl ?_
  simp only [List.length_append, List.length_set, List.length_cons, List.length_nil, Nat.zero_add, Nat.add_assoc, Nat.reduceAdd, List.append_assoc, List.cons_append, List.nil_append, nf1 hx, nf3, List.set_cons_succ, List.set_cons_zero]
  walk_at "bu"
  have hm := atx (l := iniO k s.length blk) (a := .ins k.CM macFs (iniM s.length).l) hx
  refine methAt hm (by decide) ?_
  walk_at "bu"
  exact ⟨x, n, s', rfl, hv, hq⟩
end
end SF
set_option Elab.async false
set_option linter.all false
set_option maxRecDepth 100000
set_option maxHeartbeats 4000000
/-! the machine over the store: run -/
namespace SF
open PySem PySem.Spec PyProof.Rows L2 G0 SL
open C8 (Cal Mak Met pe_c pe_mk pe_mt pe_mt0 pe_gc)
structure TxtS (K : PySem.W.Frag) (mg : Str → Option Value) (CP : Addr) : Prop extends TxtR K mg where
  b_bool : mg "bool" = none
  g_Program : ∃ u, mg "Program" = some u ∧ RelV (.ref CP) u
  g_MOST_CALLS : ∃ u, mg "MOST_CALLS" = some u ∧ RelV (.int 200) u
  g_HIGHEST_MOST : ∃ u, mg "HIGHEST_MOST" = some u ∧ RelV (.int 100000) u
  i_Program : C8.InsC K CP
def WIsI (s : Sto) (us : List U) (R : Sto → U → Prop) : Prop := ∃ i, us = [.int i] ∧ R s (.bl true)
def WMost (s : Sto) (us : List U) (R : Sto → U → Prop) : Prop := ∃ i, us = [.int i] ∧ 1 ≤ i ∧ i ≤ 100000 ∧ R s .non
/-- the machine goes on to its end -/
inductive RunR (k : Ks) (x : Nat) : Nat → Sto → Sto → Prop
  | done {s m} : MacAt k s x m → isNon m.ending = some false → RunR k x 0 s s
  | step {n s m s1 m1 s'} : MacAt k s x m → m.ending = .non → m.steps ≠ 20000 → StepR k s x s1 → MacAt k s1 x m1 → m1.deep ≤ 200 → RunR k x n s1 s' → RunR k x (n + 1) s s'
def WRun (k : Ks) (CP : Addr) (s : Sto) (us : List U) (R : Sto → U → Prop) : Prop := ∃ p c blk n j s1 s' m, us = [.rf p, .int 20000] ∧ PrgAt CP s p c blk ∧ SetlR k s.length n (iniS k (s ++ [.ins k.CM [] []]) s.length blk) s1 ∧ RunR k s.length j s1 s' ∧ MacAt k s' s.length m ∧ R s' (.tup [.rf m.pr, m.ending])
theorem MacAt.eq {k : Ks} {s : Sto} {x : Nat} {m m' : Mv} (h : MacAt k s x m) (h' : MacAt k s x m') : m = m' := by
  have e := h.symm.trans h'
  cases m
  cases m'
  simp only [Option.some.injEq, Ob.ins.injEq, Mv.l, List.cons.injEq, SL.U.rf.injEq, SL.U.int.injEq, true_and, and_true] at e
  obtain ⟨a1, a2, a3, a4, a5, a6, a7, a8, a9⟩ := e
  subst a1 a2 a3 a4 a5 a6 a7 a8 a9
  rfl
section
variable {P : Program} {w : World} {K : PySem.W.Frag} {mg : Str → Option Value} {base : Heap} {CP : Addr}
set_option synthInstance.maxSize 100000
set_option synthInstance.maxHeartbeats 0
local macro_rules | `(tactic| walk_at "bvg2") => `(tactic| first
  | ((with_reducible refine And.intro (show List.length _ ≤ sizeLine from ?hz) ?_); (case hz => exact Nat.le_of_ble_eq_true rfl)) | ((with_reducible refine And.intro (show List.length _ < sizeLine from ?hz) ?_); (case hz => exact Nat.le_of_ble_eq_true rfl))
  | ((with_reducible refine RD.ifDT ?hd ?_); (case hd => first | decide +kernel | exact rfl)) | ((with_reducible refine RD.ifDF ?hd ?_); (case hd => first | decide +kernel | exact rfl))
  | ((with_reducible refine BV.catT ?hz ?_); (case hz => exact Nat.le_of_ble_eq_true rfl)) | ((with_reducible refine BV.catL ?hz ?_); (case hz => exact Nat.le_of_ble_eq_true rfl))
  | (with_reducible refine BV.ofN (BV.dNew ?_))
  | ((with_reducible apply BV.gtup); exact rfl)
  | ((with_reducible refine BV.vname ?hh ?_); (case hh => decide)) | ((with_reducible apply BV.vtup); exact rfl))
local macro_rules | `(tactic| walk_at "bvg1") => `(tactic| first
  | (with_reducible refine BV.strJoin ?_)
  | (with_reducible first | refine BV.i0 ?_ | refine BV.i0b ?_)
  | ((with_reducible apply BV.ixT); exact rfl) | (with_reducible refine BV.ixT BV.at0' ?_) | ((with_reducible apply BV.ixL); exact rfl)
  | ((with_reducible apply BV.lenO); exact rfl)
  | ((with_reducible refine BV.isi ?hh ?hp ?_); (case hh => decide +kernel); (case hp => exact rfl)) | ((with_reducible refine BV.isN ?hp ?_); (case hp => exact rfl)) | ((with_reducible refine BV.notN ?hp ?_); (case hp => exact rfl)))
local macro_rules | `(tactic| walk_at "bvg0") => `(tactic| first
  | ((with_reducible apply BV.var); exact rfl)
  | ((with_reducible apply BV.retO); exact rfl) | (with_reducible refine BV.ret ?_) | ((with_reducible apply BV.asgPop); exact rfl) | (with_reducible refine BV.asg ?_) | ((with_reducible apply BV.asgPopG); exact rfl) | (with_reducible refine BV.asgG ?_)
  | ((with_reducible apply BV.append); exact rfl) | ((with_reducible apply BV.extend); exact rfl) | ((with_reducible apply BV.augI); exact rfl) | ((with_reducible apply BV.truO); exact rfl) | (with_reducible refine BV.dropE ?_)
  | ((with_reducible refine BV.isiT2 ?h1 ?h2 ?_); (case h1 => decide +kernel); (case h2 => decide +kernel)) | ((with_reducible refine And.intro (show isPlainB _ = true from ?hz) ?_); (case hz => exact rfl)) | ((with_reducible refine BV.listVals ?hu ?_); (case hu => trivial)))
local macro_rules | `(tactic| walk_at "bvgu") => `(tactic| first
  | ((with_reducible apply SL.ixT); exact rfl) | (with_reducible refine SL.ixT SL.at0U ?_) | (with_reducible refine SL.ixT SL.at1U ?_)
  | ((with_reducible apply SL.fldAt); (case hs => assumption); (case kc => assumption); (case hf => decide); (case hu => exact rfl))
  | ((with_reducible apply SL.methAt); (case hs => assumption); (case hm => decide)))
local macro_rules | `(tactic| walk_at "bv1") => `(tactic| first | (with_reducible refine BVSt.mp ?_) | walk_at "bvg0" | walk_at "bvg1" | walk_at "bvg2")
local macro_rules | `(tactic| walk_at "bv") => `(tactic| repeat first | (with_reducible refine bvRun ?_) | (with_reducible refine BVSt.mp ?_) | walk_at "bvg0" | walk_at "bvg1" | walk_at "bvg2")
local macro_rules | `(tactic| walk_at "bu") => `(tactic| repeat first | (with_reducible refine bvRun ?_) | (with_reducible refine BVSt.mp ?_) | walk_at "bvgu" | walk_at "bvg0" | walk_at "bvg1" | walk_at "bvg2")
theorem sc_is_integer : FnScope ["thing"] ["thing"] (defScope (topS 13)) := ⟨rfl, rfl, rfl, by decide +kernel, rfl, by decide +kernel, by decide +kernel⟩
theorem ok_isI (T : TxtS K mg CP) {f : Addr} {fd : FuncData} (F : Fun K "is_integer" "is_integer" (topS 13) f fd) : FnOk P w K mg base CX0 1 f fd ["thing"] (SpU K WIsI) := by
  refine F.ok sc_is_integer (fun vs H Q E h => SL.spLen (fun s us R hW => by obtain ⟨i, rfl, _⟩ := hW; rfl) h) (fun cdv A outer s H vs Q E hr h => ?_)
  have hu := hu_of hr
  refine ⟨_, (pss_one (ps_ret (pe_and (pe_callB call_isi (by rfl) T.b_isinstance (by decide +kernel) (pa_cons (pv 0) (pa_cons (pe_bltn (v := .ty "int") (by rfl) T.b_int (by decide +kernel) rfl) pa_nil))) (pe_one (pe_not (pe_callB call_isi (by rfl) T.b_isinstance (by decide +kernel) (pa_cons (pv 0) (pa_cons (pe_bltn (v := .ty "bool") (by rfl) T.b_bool (by decide +kernel) rfl) pa_nil)))))))), ?_⟩
  refine SL.body h _ fun s us R hW hl => ?_
  obtain ⟨i, rfl, hq⟩ := hW
  change suS K _ s [some (.int i)] _
  try dsimp only [cxOf, Cx.nox]
  walk_at "bu"
  refine SL.isi (b := .int i) (by decide) rfl rfl ?_
  refine ⟨true, rfl, ?_⟩
  rw [if_pos rfl]
  walk_at "bu"
  refine SL.isi (b := .int i) (by decide) rfl rfl ?_
  exact ⟨false, rfl, hq⟩
theorem sc_check_most : FnScope ["most"] ["most"] (defScope (topS 47)) := ⟨rfl, rfl, rfl, by decide +kernel, rfl, by decide +kernel, by decide +kernel⟩
theorem ok_most (T : TxtS K mg CP) (c_is_integer : Cal P w K mg base 1 "is_integer" (SpU K WIsI) []) {f : Addr} {fd : FuncData} (F : Fun K "check_most" "check_most" (topS 47) f fd) : FnOk P w K mg base CX0 2 f fd ["most"] (SpU K WMost) := by
  refine F.ok sc_check_most (fun vs H Q E h => SL.spLen (fun s us R hW => by obtain ⟨i, rfl, _⟩ := hW; rfl) h) (fun cdv A outer s H vs Q E hr h => ?_)
  have hu := hu_of hr
  refine ⟨_, (pss_one (ps_if ((pw_or (pt_not (pt_val (pe_c c_is_integer hr (by decide) (by rfl) (pa_cons (pv 0) pa_nil)))) (pw_or1 (pt_not (pt_chain op_le op_le pe_int (pv 0) (pe_gc (by rfl) T.g_HIGHEST_MOST)))))).pt (pss_one ps_never) pss_nil)), ?_⟩
  refine SL.body h _ fun s us R hW hl => ?_
  obtain ⟨i, rfl, h1, h2, hq⟩ := hW
  change suS K _ s [some (.int i)] _
  try dsimp only [cxOf, Cx.nox]
  walk_at "bu"
  refine ⟨i, rfl, true, rfl, ?_⟩
  rw [if_neg (by decide)]
  walk_at "bu"
  rw [if_pos (decide_eq_true h1)]
  walk_at "bu"
  rw [decide_eq_true h2]
  walk_at "bu"
  exact hq
theorem sc_run : FnScope ["program", "most", "machine"] ["program", "most"] (defScope (topS 69)) := ⟨rfl, rfl, rfl, by decide +kernel, rfl, by decide +kernel, by decide +kernel⟩
theorem ok_run (T : TxtS K mg CP) {k : Ks} (kk : KsOk K k) (c_check_most : Cal P w K mg base 2 "check_most" (SpU K WMost) []) (c_Machine : Mak P w K mg base 7 "Machine" k.CM (SpU K (WMac k CP)) []) (me_step : Met P w K mg base 8 k.CM "step" (SpU K (WStep k)) []) {f : Addr} {fd : FuncData} (F : Fun K "run" "run" (topS 69) f fd) : FnOk P w K mg base CX0 9 f fd ["program", "most"] (SpU K (WRun k CP)) := by
  refine F.ok sc_run (fun vs H Q E h => SL.spLen (fun s us R hW => by obtain ⟨p, c, blk, n, j, s1, s', m, rfl, _⟩ := hW; rfl) h) (fun cdv A outer s H vs Q E hr h => ?_)
  have hu := hu_of hr
  refine ⟨_, (pss_cons (ps_if (pt_not (pt_val (pe_callB (call_isC' T.i_Program) (by rfl) T.b_isinstance (by decide +kernel) (pa_cons (pv 0) (pa_cons (pe_gc (by rfl) T.g_Program) pa_nil))))) (pss_one ps_never) pss_nil)
      (pss_cons (ps_expr (pe_c c_check_most hr (by decide) (by rfl) (pa_cons (pv 1) pa_nil)))
      (pss_cons (ps_set (i := 2) sc_run.nd rfl (Or.inl rfl) (pe_mk c_Machine hr (by decide) (by rfl) (pa_cons (pv 0) pa_nil)))
      (pss_cons (ps_while PassesOwn.never (pt_cmpR op_isN1 (pe_fld (pv 2) rfl) pe_non (nomark _)) (pss_cons (ps_if (pt_cmpR op_eq (pe_fld (pv 2) rfl) (pv 1) (nomark _)) (pss_one ps_never) pss_nil)
      (pss_cons (ps_expr (pe_mt0 me_step hr (by decide) (pv 2)))
      (pss_one (ps_if (pt_cmpR op_gt (pe_fld (pv 2) rfl) (pe_gc (by rfl) T.g_MOST_CALLS) (nomark _)) (pss_one ps_never) pss_nil)))))
      (pss_one (ps_ret (pe_tup (pa_cons (pe_fld (pv 2) rfl) (pa_cons (pe_fld (pv 2) rfl) pa_nil))))))))), ?_⟩
  refine SL.body h _ fun s us R hW hl => ?_
  obtain ⟨p, c, blk, n, j, s1, s', m, rfl, hp, hv, hR, hm, hq⟩ := hW
  change suS K _ s [some (.rf p), some (.int 20000), none] _
  try dsimp only [cxOf, Cx.nox]
  have km := kk.m
  walk_at "bu"
  refine SL.isC hp.1 ?_
  walk_at "bu"
  refine ⟨20000, rfl, by decide, by decide, ?_⟩
  walk_at "bu"
  have pl := (List.getElem?_eq_some_iff.mp hp.1).1
  have cl := (List.getElem?_eq_some_iff.mp hp.2).1
  refine ⟨_, p, c, blk, n, s1, rfl, newAt, ⟨by rw [List.getElem?_append_left pl]; exact hp.1, by rw [List.getElem?_append_left cl]; exact hp.2⟩, hv, rfl, ?_⟩
  walk_at "bu"
  generalize s.length = x at hR hm ⊢
  clear hv
  refine SL.while_ (fun j s1 g => RunR k x j s1 s' ∧ g = [some (.rf p), some (.int 20000), some (.rf x)]) j ⟨hR, rfl⟩ fun j s1 g hJ => ?_
  obtain ⟨hS, rfl⟩ := hJ
  cases hS with
  | @done _ m1 h1 h2 =>
    have h1' : s'[x]? = some (Ob.ins k.CM macFs m1.l) := h1
    walk_at "bu"
    refine SL.isN h2 ?_
    walk_at "bu"
    rw [MacAt.eq h1 hm]
    exact hq
  | @step j _ m1 s2 m2 _ h1 h2 h3 h4 h5 h6 h7 =>
    have h1' : s1[x]? = some (Ob.ins k.CM macFs m1.l) := h1
    have h5' : s2[x]? = some (Ob.ins k.CM macFs m2.l) := h5
    walk_at "bu"
    rw [h2]
    walk_at "bu"
    rw [if_neg (by rw [decide_eq_false h3]; exact Bool.false_ne_true)]
    walk_at "bu"
    refine ⟨x, s2, rfl, h4, ?_⟩
    walk_at "bu"
    rw [if_neg (by rw [decide_eq_false (by omega)]; exact Bool.false_ne_true)]
    walk_at "bu"
    exact ⟨j, Nat.lt_succ_self _, h7, rfl⟩
end
end SF
set_option Elab.async false
set_option linter.all false
set_option maxRecDepth 100000
set_option maxHeartbeats 4000000
/-! a program without classes: by value, what is wrong in it -/
namespace SF
open PySem PySem.Spec PyProof.Rows L2 G0 BV
open C8 (Cal Mak Met pe_c pe_mk pe_mt pe_mt0 pe_gc)
def plN : PlD := ⟨some [], [], false, false⟩
def WIsCls (bs : List B) (R : B → Prop) : Prop := bs = [.dct [] []] ∧ R (.bl true)
def WRing0 (bs : List B) (R : B → Prop) : Prop := bs = [.dct [] []] ∧ R (.bl false)
def WWrong (bs : List B) (R : B → Prop) : Prop := ∃ x, bs = [.dct [] [], x] ∧ pdB x = true ∧ szB x ≤ 100000 ∧ good plN ⟨"block", x, 0, false, 0⟩ = true ∧ R .non
section
variable {P : Program} {w : World} {K : PySem.W.Frag} {mg : Str → Option Value} {base : Heap} {C : Addr}
set_option synthInstance.maxSize 100000
set_option synthInstance.maxHeartbeats 0
local macro_rules | `(tactic| walk_at "bvg2") => `(tactic| first
  | ((with_reducible refine And.intro (show List.length _ ≤ sizeLine from ?hz) ?_); (case hz => exact Nat.le_of_ble_eq_true rfl)) | ((with_reducible refine And.intro (show List.length _ < sizeLine from ?hz) ?_); (case hz => exact Nat.le_of_ble_eq_true rfl))
  | ((with_reducible refine RD.ifDT ?hd ?_); (case hd => first | decide +kernel | exact rfl)) | ((with_reducible refine RD.ifDF ?hd ?_); (case hd => first | decide +kernel | exact rfl))
  | ((with_reducible refine BV.catT ?hz ?_); (case hz => exact Nat.le_of_ble_eq_true rfl)) | ((with_reducible refine BV.catL ?hz ?_); (case hz => exact Nat.le_of_ble_eq_true rfl))
  | (with_reducible refine BV.ofN (BV.dNew ?_))
  | ((with_reducible apply BV.gtup); exact rfl)
  | ((with_reducible refine BV.vname ?hh ?_); (case hh => decide)) | ((with_reducible apply BV.vtup); exact rfl))
local macro_rules | `(tactic| walk_at "bvg1") => `(tactic| first
  | (with_reducible refine BV.strJoin ?_)
  | (with_reducible first | refine BV.i0 ?_ | refine BV.i0b ?_)
  | ((with_reducible apply BV.ixT); exact rfl) | (with_reducible refine BV.ixT BV.at0' ?_) | ((with_reducible apply BV.ixL); exact rfl)
  | ((with_reducible apply BV.lenO); exact rfl)
  | ((with_reducible refine BV.isi ?hh ?hp ?_); (case hh => decide +kernel); (case hp => exact rfl)) | ((with_reducible refine BV.isN ?hp ?_); (case hp => exact rfl)) | ((with_reducible refine BV.notN ?hp ?_); (case hp => exact rfl)))
local macro_rules | `(tactic| walk_at "bvg0") => `(tactic| first
  | ((with_reducible apply BV.var); exact rfl)
  | ((with_reducible apply BV.retO); exact rfl) | (with_reducible refine BV.ret ?_) | ((with_reducible apply BV.asgPop); exact rfl) | (with_reducible refine BV.asg ?_) | ((with_reducible apply BV.asgPopG); exact rfl) | (with_reducible refine BV.asgG ?_)
  | ((with_reducible apply BV.append); exact rfl) | ((with_reducible apply BV.extend); exact rfl) | ((with_reducible apply BV.augI); exact rfl) | ((with_reducible apply BV.truO); exact rfl) | (with_reducible refine BV.dropE ?_)
  | ((with_reducible refine BV.isiT2 ?h1 ?h2 ?_); (case h1 => decide +kernel); (case h2 => decide +kernel)) | ((with_reducible refine And.intro (show isPlainB _ = true from ?hz) ?_); (case hz => exact rfl)) | ((with_reducible refine BV.listVals ?hu ?_); (case hu => trivial)))
local macro_rules | `(tactic| walk_at "bvgu") => `(tactic| first
  | ((with_reducible apply SL.ixT); exact rfl) | (with_reducible refine SL.ixT SL.at0U ?_) | (with_reducible refine SL.ixT SL.at1U ?_)
  | ((with_reducible apply SL.fldAt); (case hs => assumption); (case kc => assumption); (case hf => decide); (case hu => exact rfl))
  | ((with_reducible apply SL.methAt); (case hs => assumption); (case hm => decide)))
local macro_rules | `(tactic| walk_at "bv1") => `(tactic| first | (with_reducible refine BVSt.mp ?_) | walk_at "bvg0" | walk_at "bvg1" | walk_at "bvg2")
local macro_rules | `(tactic| walk_at "bv") => `(tactic| repeat first | (with_reducible refine bvRun ?_) | (with_reducible refine BVSt.mp ?_) | walk_at "bvg0" | walk_at "bvg1" | walk_at "bvg2")
local macro_rules | `(tactic| walk_at "bu") => `(tactic| repeat first | (with_reducible refine bvRun ?_) | (with_reducible refine BVSt.mp ?_) | walk_at "bvgu" | walk_at "bvg0" | walk_at "bvg1" | walk_at "bvg2")
theorem sc__has_ring : FnScope ["classes", "name", "above", "_"] ["classes"] (defScope (topS 66)) := ⟨rfl, rfl, rfl, by decide +kernel, rfl, by decide +kernel, by decide +kernel⟩
theorem ok_ring0 (T : TxtP K mg) {f : Addr} {fd : FuncData} (F : Fun K "_has_ring" "_has_ring" (topS 66) f fd) : FnOk P w K mg base CX0 1 f fd ["classes"] (SpB G3 K WRing0) := by
  refine F.ok sc__has_ring (fun vs H Q E h => spLen (fun bs R hW => by obtain ⟨rfl, _⟩ := hW; rfl) h) (fun cdv A outer s H vs Q E hr h => ?_)
  refine ⟨_, (pss_cons (ps_lock (ps_for PassesOwn.never rfl (pi_keys (pv 0)) (pg_name (i := 1) sc__has_ring.nd rfl (Or.inl rfl)) (pss_cons ps_never
      (pss_cons ps_never
      (pss_one ps_never)))))
      (pss_one (ps_ret pe_bl))), ?_⟩
  refine body h _ fun bs R hW hl => ?_
  obtain ⟨rfl, hq⟩ := hW
  change bwS G3 K _ [.sh (.dct [] []), .no, .no, .no] _
  try dsimp only [cxOf, Cx.nox]
  refine BV.seq (forS (selVK trivial rfl) rfl (fun _ _ _ => trivial) (fun o p od kvs a b => wk_keys a b) (fun k g => k = 0 → g = [.sh (.dct [] []), .no, .no, .no]) (fun _ => rfl) (fun k d g hd => ?_) fun g hg => ?_)
  · simp at hd
  · obtain rfl := hg rfl
    walk_at "bv"
    exact hq
theorem sc__is_classes : FnScope ["thing", "cls"] ["thing"] (defScope (topS 64)) := ⟨rfl, rfl, rfl, by decide +kernel, rfl, by decide +kernel, by decide +kernel⟩
theorem ok_isCls (T : TxtP K mg) (g_MC : ∃ u, mg "MOST_CLASSES" = some u ∧ RelV (.int 8) u) (c_is_name_dict : Cal P w K mg base 2 "is_name_dict" (SpB G3 K WIsNameD) []) (c__has_ring : Cal P w K mg base 1 "_has_ring" (SpB G3 K WRing0) []) {f : Addr} {fd : FuncData} (F : Fun K "_is_classes" "_is_classes" (topS 64) f fd) : FnOk P w K mg base CX0 3 f fd ["thing"] (SpB G3 K WIsCls) := by
  refine F.ok sc__is_classes (fun vs H Q E h => spLen (fun bs R hW => by obtain ⟨rfl, _⟩ := hW; rfl) h) (fun cdv A outer s H vs Q E hr h => ?_)
  refine ⟨_, (pss_cons (ps_if (pt_not (pt_val (pe_c c_is_name_dict hr (by decide) (by rfl) (pa_cons (pv 0) (pa_cons (pe_gc (by rfl) g_MC) pa_nil))))) (pss_one (ps_ret pe_bl)) pss_nil)
      (pss_cons (ps_if (pt_not (pt_val (pe_callB (cr_all rfl) (by rfl) T.b_all (by decide +kernel) (pa_cons (pe_lock (pe_lc (own := [("cls", 1)]) (tt := tYes) rfl sc__is_classes.nd (pi_values (pv 0)) (blkOk_by (N := ["thing", "cls"]) (sc := defScope (topS 64)) (by decide +kernel)) (fun _ _ _ _ _ => (pg_name (i := 1) sc__is_classes.nd rfl (Or.inl rfl))) (fun _ _ _ _ _ => pts_nil) (fun _ _ _ _ _ => SL.pe_never))) pa_nil)))) (pss_one (ps_ret pe_bl)) pss_nil)
      (pss_one (ps_ret (pe_and (pe_callB (cr_all rfl) (by rfl) T.b_all (by decide +kernel) (pa_cons (pe_lock (pe_lc (own := [("cls", 1)]) (tt := tYes) rfl sc__is_classes.nd (pi_values (pv 0)) (blkOk_by (N := ["thing", "cls"]) (sc := defScope (topS 64)) (by decide +kernel)) (fun _ _ _ _ _ => (pg_name (i := 1) sc__is_classes.nd rfl (Or.inl rfl))) (fun _ _ _ _ _ => pts_nil) (fun _ _ _ _ _ => SL.pe_never))) pa_nil)) (pe_one (pe_not (pe_c c__has_ring hr (by decide) (by rfl) (pa_cons (pv 0) pa_nil))))))))), ?_⟩
  refine body h _ fun bs R hW hl => ?_
  obtain ⟨rfl, hq⟩ := hW
  change bwS G3 K _ [.sh (.dct [] []), .no] _
  try dsimp only [cxOf, Cx.nox]
  walk_at "bv"
  refine ⟨_, 8, rfl, rfl, by decide, ?_⟩
  walk_at "bv"
  refine lcValues trivial rfl (lcT_map (fun _ => .bl true) (by decide) (fun i d hd => by simp at hd) ?_)
  walk_at "bv"
  refine all_ (bs := []) ?_
  walk_at "bv"
  refine lcValues trivial rfl (lcT_map (fun _ => .bl true) (by decide) (fun i d hd => by simp at hd) ?_)
  walk_at "bv"
  refine all_ (bs := []) ?_
  walk_at "bv"
  refine ⟨rfl, ?_⟩
  walk_at "bv"
  exact hq
theorem sc__wrong_part : FnScope ["classes", "body", "name", "method"] ["classes", "body"] (defScope (topS 63)) := ⟨rfl, rfl, rfl, by decide +kernel, rfl, by decide +kernel, by decide +kernel⟩
theorem ok_wrong (T : TxtP K mg) (pk : PlK K C) (c__is_classes : Cal P w K mg base 3 "_is_classes" (SpB G3 K WIsCls) []) (c_Place : Mak P w K mg base 1 "Place" C (SpF C plFs) []) (c_is_block : Cal P w K mg base 5 "is_block" (SpB G3.lo K (WBlock C)) []) {f : Addr} {fd : FuncData} (F : Fun K "_wrong_part" "_wrong_part" (topS 63) f fd) : FnOk P w K mg base CX0 6 f fd ["classes", "body"] (SpB G3 K WWrong) := by
  refine F.ok sc__wrong_part (fun vs H Q E h => spLen (fun bs R hW => by obtain ⟨x, rfl, _⟩ := hW; rfl) h) (fun cdv A outer s H vs Q E hr h => ?_)
  have hu := hu_of hr
  refine ⟨_, (pss_cons (ps_if (pt_not (pt_val (pe_c c__is_classes hr (by decide) (by rfl) (pa_cons (pv 0) pa_nil)))) (pss_one (ps_ret pe_str)) pss_nil)
      (pss_cons (ps_for PassesOwn.never rfl (pi_list (pe_callB (call_sortD rfl) (by rfl) T.b_sorted (by decide +kernel) (pa_cons (pv 0) pa_nil))) (pg_name (i := 2) sc__wrong_part.nd rfl (Or.inl rfl)) (pss_cons ps_never
      (pss_one ps_never)))
      (pss_one (ps_ret (pe_ifExp (pt_val (pe_c c_is_block hr (by decide) (by rfl) (pa_cons (pv 1) (pa_cons (pe_mk c_Place hr (by decide) (by rfl) (pa_cons (pv 0) (pa_cons pe_dnewK (pa_cons pe_bl (pa_cons pe_bl pa_nil))))) pa_nil)))) pe_non pe_str))))), ?_⟩
  refine body h _ fun bs R hW hl => ?_
  obtain ⟨x, rfl, hp, hz, hg, hq⟩ := hW
  change bwS G3 K _ [.sh (.dct [] []), .sh (x), .no, .no] _
  try dsimp only [cxOf, Cx.nox]
  walk_at "bv"
  refine ⟨rfl, ?_⟩
  walk_at "bv"
  refine BV.seq (BV.forI ?_)
  refine BV.wlist ?_
  walk_at "bv"
  refine sortedD (ss := []) (by decide) fun ys hpm hs => ?_
  obtain rfl := hpm.eq_nil
  walk_at "bv"
  refine ⟨fun k g => g = [.sh (.dct [] []), .sh x, .no, .no], rfl, fun k d g hd => by simp at hd, fun g hI => ?_⟩
  obtain rfl := hI
  show bwS G3 K tNext [.sh (.dct [] []), .sh x, .no, .no] _
  walk_at "bv"
  refine mkF ?_
  walk_at "bv"
  refine ⟨rfl, ?_⟩
  walk_at "bv"
  refine ⟨plN, _, x, rfl, ⟨[], [], rfl, rfl, fun ks e => by rw [← Option.some.inj e]; rfl⟩, hp, hz, ?_⟩
  refine ⟨_, rfl, ?_⟩
  rw [show (⟨"block", x, 0, plN.im, 0⟩ : Pt) = ⟨"block", x, 0, false, 0⟩ from rfl, hg, if_pos rfl]
  walk_at "bv"
  exact hq
end
theorem lkG : ∀ H, BV.LK G3 H SL.o0 H := fun _ => ⟨fun _ _ h => h, fun _ _ h => h.elim⟩
section
open SL
variable {P : Program} {w : World} {K : PySem.W.Frag} {mg : Str → Option Value} {base : Heap}
set_option synthInstance.maxSize 100000
set_option synthInstance.maxHeartbeats 0
local macro_rules | `(tactic| walk_at "bvg2") => `(tactic| first
  | ((with_reducible refine And.intro (show List.length _ ≤ sizeLine from ?hz) ?_); (case hz => exact Nat.le_of_ble_eq_true rfl)) | ((with_reducible refine And.intro (show List.length _ < sizeLine from ?hz) ?_); (case hz => exact Nat.le_of_ble_eq_true rfl))
  | ((with_reducible refine RD.ifDT ?hd ?_); (case hd => first | decide +kernel | exact rfl)) | ((with_reducible refine RD.ifDF ?hd ?_); (case hd => first | decide +kernel | exact rfl))
  | ((with_reducible refine BV.catT ?hz ?_); (case hz => exact Nat.le_of_ble_eq_true rfl)) | ((with_reducible refine BV.catL ?hz ?_); (case hz => exact Nat.le_of_ble_eq_true rfl))
  | (with_reducible refine BV.ofN (BV.dNew ?_))
  | ((with_reducible apply BV.gtup); exact rfl)
  | ((with_reducible refine BV.vname ?hh ?_); (case hh => decide)) | ((with_reducible apply BV.vtup); exact rfl))
local macro_rules | `(tactic| walk_at "bvg1") => `(tactic| first
  | (with_reducible refine BV.strJoin ?_)
  | (with_reducible first | refine BV.i0 ?_ | refine BV.i0b ?_)
  | ((with_reducible apply BV.ixT); exact rfl) | (with_reducible refine BV.ixT BV.at0' ?_) | ((with_reducible apply BV.ixL); exact rfl)
  | ((with_reducible apply BV.lenO); exact rfl)
  | ((with_reducible refine BV.isi ?hh ?hp ?_); (case hh => decide +kernel); (case hp => exact rfl)) | ((with_reducible refine BV.isN ?hp ?_); (case hp => exact rfl)) | ((with_reducible refine BV.notN ?hp ?_); (case hp => exact rfl)))
local macro_rules | `(tactic| walk_at "bvg0") => `(tactic| first
  | ((with_reducible apply BV.var); exact rfl)
  | ((with_reducible apply BV.retO); exact rfl) | (with_reducible refine BV.ret ?_) | ((with_reducible apply BV.asgPop); exact rfl) | (with_reducible refine BV.asg ?_) | ((with_reducible apply BV.asgPopG); exact rfl) | (with_reducible refine BV.asgG ?_)
  | ((with_reducible apply BV.append); exact rfl) | ((with_reducible apply BV.extend); exact rfl) | ((with_reducible apply BV.augI); exact rfl) | ((with_reducible apply BV.truO); exact rfl) | (with_reducible refine BV.dropE ?_)
  | ((with_reducible refine BV.isiT2 ?h1 ?h2 ?_); (case h1 => decide +kernel); (case h2 => decide +kernel)) | ((with_reducible refine And.intro (show isPlainB _ = true from ?hz) ?_); (case hz => exact rfl)) | ((with_reducible refine BV.listVals ?hu ?_); (case hu => trivial)))
local macro_rules | `(tactic| walk_at "bvgu") => `(tactic| first
  | ((with_reducible apply SL.ixT); exact rfl) | (with_reducible refine SL.ixT SL.at0U ?_) | (with_reducible refine SL.ixT SL.at1U ?_)
  | ((with_reducible apply SL.fldAt); (case hs => assumption); (case kc => assumption); (case hf => decide); (case hu => exact rfl))
  | ((with_reducible apply SL.methAt); (case hs => assumption); (case hm => decide)))
local macro_rules | `(tactic| walk_at "bv1") => `(tactic| first | (with_reducible refine BVSt.mp ?_) | walk_at "bvg0" | walk_at "bvg1" | walk_at "bvg2")
local macro_rules | `(tactic| walk_at "bv") => `(tactic| repeat first | (with_reducible refine bvRun ?_) | (with_reducible refine BVSt.mp ?_) | walk_at "bvg0" | walk_at "bvg1" | walk_at "bvg2")
local macro_rules | `(tactic| walk_at "bu") => `(tactic| repeat first | (with_reducible refine bvRun ?_) | (with_reducible refine BVSt.mp ?_) | walk_at "bvgu" | walk_at "bvg0" | walk_at "bvg1" | walk_at "bvg2")
/-- a program is made: its dict of classes is new, its body handed -/
def WPrg (CP : Addr) (s : Sto) (us : List U) (R : Sto → U → Prop) : Prop := ∃ p c x blk, us = [.rf p, .rf c, .tup blk] ∧ s[p]? = some (Ob.ins CP [] []) ∧ s[c]? = some (Ob.dct [] []) ∧ Dr s x (.tup blk) ∧ pdB x = true ∧ szB x ≤ 100000 ∧ good plN ⟨"block", x, 0, false, 0⟩ = true ∧ R ((s.set p (Ob.ins CP prgFs [.rf s.length, .tup blk])) ++ [Ob.dct [] []]) .non
theorem sc_Program___init__ : FnScope ["self", "classes", "body", "part"] ["self", "classes", "body"] (defScope (inClass (topS 61) 0)) := ⟨rfl, rfl, rfl, by decide +kernel, rfl, by decide +kernel, by decide +kernel⟩
theorem ok_Prg (T : TxtR K mg) {CP : Addr} (kp : KC K CP prgFs) (c__wrong_part : Cal P w K mg base 6 "_wrong_part" (SpB G3 K WWrong) []) (c__copied_classes : Cal P w K mg base 2 "_copied_classes" (SpU K WCopies) []) {f : Addr} {fd : FuncData} (F : Fun K "__init__" "Program.__init__" (inClass (topS 61) 0) f fd) : FnOk P w K mg base CX0 7 f fd ["self", "classes", "body"] (SpU K (WPrg CP)) := by
  refine F.ok sc_Program___init__ (fun vs H Q E h => SL.spLen (fun s us R hW => by obtain ⟨p, c, x, blk, rfl, _⟩ := hW; rfl) h) (fun cdv A outer s H vs Q E hr h => ?_)
  have hu := hu_of hr
  refine ⟨_, (pss_cons (ps_set (i := 3) sc_Program___init__.nd rfl (Or.inl rfl) (pe_c c__wrong_part hr (by decide) (by rfl) (pa_cons (pv 1) (pa_cons (pv 2) pa_nil))))
      (pss_cons (ps_if (pt_cmpR op_notN1 (pv 3) pe_non (nomark _)) (pss_one ps_never) pss_nil)
      (pss_cons (ps_fld (pv 0) (pe_c c__copied_classes hr (by decide) (by rfl) (pa_cons (pv 1) pa_nil)) rfl)
      (pss_one (ps_fld (pv 0) (pv 2) rfl))))), ?_⟩
  refine SL.body h _ fun s us R hW hl => ?_
  obtain ⟨p, c, x, blk, rfl, hs, hc, hx, hp, hz, hg, hq⟩ := hW
  change suS K _ s [some (.rf p), some (.rf c), some (.tup blk), none] _
  try dsimp only [cxOf, Cx.nox]
  walk_at "bu"
  refine SL.callB lkG ?_
  walk_at "bu"
  refine ⟨[.dct [] [], x], ?_, x, rfl, hp, hz, hg, .non, rfl, ?_⟩
  · rw [Drs]
    exact ⟨_, _, rfl, by rw [Dr]; exact ⟨c, [], rfl, hc, by rw [Drs]⟩, by rw [Drs]; exact ⟨_, _, rfl, hx, by rw [Drs]⟩⟩
  have hpl := (List.getElem?_eq_some_iff.mp hs).1
  walk_at "bu"
  refine ⟨c, rfl, hc, ?_⟩
  walk_at "bu"
  refine setAt (fs' := ["_classes"]) (ds' := [.rf s.length]) kp (by rw [List.getElem?_append_left hpl]; exact hs) (by decide) (by decide) rfl ?_
  rw [nf2 hpl]
  walk_at "bu"
  refine setAt (fs' := ["_classes", "body"]) (ds' := [.rf s.length, .tup blk]) kp (atx hpl) (by decide) (by decide) rfl ?_
  rw [nf1 hpl]
  exact hq
end
end SF
set_option Elab.async false
set_option linter.all false
set_option maxRecDepth 100000
set_option maxHeartbeats 4000000
/-! over the store: the draws of _law_begin, _law_load, _law_draw; words -/
namespace SF
open PySem PySem.Spec PyProof.Rows L2 G0 SL
/-- the state of the draws stands at 0, its list at 1 -/
def Dw (s : Sto) : Prop := ∃ (ns : List Int) (i : Nat) (held seed left : Int), s[0]? = some (.lst [.rf 1, .int i, .int held, .int seed, .int left]) ∧ s[1]? = some (.lst (ns.map U.int)) ∧ 0 ≤ held ∧ 0 ≤ seed ∧ seed < 2147483648
section
variable {K : PySem.W.Frag} {α α' : AM} {s : Sto} {H H' : Hp} {W : WU} {Γ : List (Option U)} {σ : L2.St} {Post : Sto → U → Prop} {t : TA}
theorem dw_out {v : V} (ok : SOk K α s H) (h : Dw s) (r : RpU K α H (.rf 0) v) : ∃ (st cl : Addr) (ns : List Int), v = .ref st ∧ α[0]? = some st ∧ α[1]? = some cl ∧ D2 H st cl ns ∧ s[1]? = some (.lst (ns.map U.int)) ∧ 0 < s.length := by
  obtain ⟨ns, i, held, seed, left, hs, hm, b1, b2, b3⟩ := h
  obtain ⟨st, ws, rfl, h1, h2, h3⟩ := lst_at ok hs r
  obtain ⟨w1, w', rfl, d1, d2⟩ := ru_cons.mp h3
  obtain ⟨w2, w', rfl, d3, d4⟩ := ru_cons.mp d2
  obtain ⟨w3, w', rfl, d5, d6⟩ := ru_cons.mp d4
  obtain ⟨w4, w', rfl, d7, d8⟩ := ru_cons.mp d6
  obtain ⟨w5, w', rfl, d9, d10⟩ := ru_cons.mp d8
  obtain rfl := ru_nil.mp d10
  obtain ⟨cl, zs, rfl, g1, g2, g3⟩ := lst_at ok hm d1
  obtain rfl := ru_ints.mp g3
  rw [ru_int.mp d3, ru_int.mp d5, ru_int.mp d7, ru_int.mp d9] at h2
  have hcs : cl ≠ st := fun z => (by decide : (1 : Nat) ≠ 0) (nd_at ok.nd (by rw [z] at g1; exact g1) h1)
  exact ⟨st, cl, ns, rfl, h1, g1, ⟨i, held, seed, left, h2, g2, hcs, b1, b2, b3⟩, hm, (List.getElem?_eq_some_iff.mp hs).1⟩
theorem dw_in {st cl : Addr} {ns : List Int} (ok : SOk K α s H) (h0 : 0 < s.length) (h1 : α[0]? = some st) (g1 : α[1]? = some cl) (hm : s[1]? = some (.lst (ns.map U.int))) (b : Btw st H H') (d : D2 H' st cl ns) : ∃ o, Ext α H α H' ∧ SOk K α (s.set 0 o) H' ∧ Dw (s.set 0 o) := by
  obtain ⟨i', held', seed', left', f1, f2, f3, f4, f5, f6⟩ := d.ex
  obtain ⟨ee, ok2⟩ := SOk.chgA (H' := H') (b := .lst [.rf 1, .int i', .int held', .int seed', .int left']) ok h1 b ⟨_, f1, ru_cons.mpr ⟨_, _, rfl, ru_rf.mpr ⟨cl, g1, rfl⟩, ru_cons.mpr ⟨_, _, rfl, ru_int.mpr rfl, ru_cons.mpr ⟨_, _, rfl, ru_int.mpr rfl, ru_cons.mpr ⟨_, _, rfl, ru_int.mpr rfl, ru_cons.mpr ⟨_, _, rfl, ru_int.mpr rfl, ru_nil.mpr rfl⟩⟩⟩⟩⟩⟩
  exact ⟨_, ee, ok2, ns, i', held', seed', left', List.getElem?_set_self h0, by rw [List.getElem?_set_ne (by decide)]; exact hm, f4, f5, f6⟩
theorem callD2 {E : XK} (h : suA K t s Γ fun s1 us => ∃ (many : Nat), us = [.rf 0, .int many] ∧ Dw s1 ∧ 0 < many ∧ many ≤ 1000 ∧ ∀ (k : Nat) (b : Ob), k < many → Dw (s1.set 0 b) → Post (s1.set 0 b) (.int k)) : suE K (tCall spDraw2 [] E t) s Γ Post := fun W α σ H Q Ev k =>
  RD.call (h W α σ H _ Ev fun α1 s1 us vs H1 p1 k1 E1 r1 => by
    obtain ⟨many, rfl, hD, m0, m1, pp⟩ := p1
    obtain ⟨v1, r', rfl, c1, c2⟩ := ru_cons.mp r1
    obtain ⟨v2, r'', rfl, c3, c4⟩ := ru_cons.mp c2
    obtain rfl := ru_nil.mp c4
    rw [ru_int.mp c3]
    obtain ⟨st, cl, ns, rfl, h1, g1, hd, hm, h0⟩ := dw_out E1.ok hD c1
    refine ⟨st, cl, ns, many, rfl, hd, m0, m1, fun kd H2 hk hb hd2 => ?_⟩
    obtain ⟨o, ee, ok2, dw⟩ := dw_in E1.ok h0 h1 g1 hm hb hd2
    exact k α1 _ (.int kd) _ H2 (pp kd o hk dw) (k1.trans ee) (E1.step ee ok2) (ru_int.mpr rfl))
instance st_callD2 {E : XK} : BVSt (suE K (tCall spDraw2 [] E t) s Γ Post) (suA K t s Γ fun s1 us => ∃ (many : Nat), us = [.rf 0, .int many] ∧ Dw s1 ∧ 0 < many ∧ many ≤ 1000 ∧ ∀ (k : Nat) (b : Ob), k < many → Dw (s1.set 0 b) → Post (s1.set 0 b) (.int k)) := ⟨fun h => callD2 h⟩
theorem callWd {E : XK} (h : suA K t s Γ fun s1 us => us = [.rf 0] ∧ Dw s1 ∧ ∀ (z : Str) (b : Ob), nameS z = true → z.length ≤ 8 → Dw (s1.set 0 b) → Post (s1.set 0 b) (.str z)) : suE K (tCall spWord [] E t) s Γ Post := fun W α σ H Q Ev k =>
  RD.call (h W α σ H _ Ev fun α1 s1 us vs H1 p1 k1 E1 r1 => by
    obtain ⟨rfl, hD, pp⟩ := p1
    obtain ⟨v1, r', rfl, c1, c2⟩ := ru_cons.mp r1
    obtain rfl := ru_nil.mp c2
    obtain ⟨st, cl, ns, rfl, h1, g1, hd, hm, h0⟩ := dw_out E1.ok hD c1
    refine ⟨st, cl, ns, rfl, hd, fun z H2 hz hz8 hb hd2 => ?_⟩
    obtain ⟨o, ee, ok2, dw⟩ := dw_in E1.ok h0 h1 g1 hm hb hd2
    exact k α1 _ (.str z) _ H2 (pp z o hz hz8 dw) (k1.trans ee) (E1.step ee ok2) (ru_str.mpr rfl))
instance st_callWd {E : XK} : BVSt (suE K (tCall spWord [] E t) s Γ Post) (suA K t s Γ fun s1 us => us = [.rf 0] ∧ Dw s1 ∧ ∀ (z : Str) (b : Ob), nameS z = true → z.length ≤ 8 → Dw (s1.set 0 b) → Post (s1.set 0 b) (.str z)) := ⟨fun h => callWd h⟩
theorem ru_strs' : ∀ {ss : List Str}, RpsU K α H (ss.map U.str) (ss.map V.str)
  | [] => ru_nil.mpr rfl
  | z :: ss => ru_cons.mpr ⟨_, _, rfl, ru_str.mpr rfl, ru_strs'⟩
theorem callWds {E : XK} (h : suA K t s Γ fun s1 us => ∃ many : Nat, us = [.rf 0, .int many] ∧ many ≤ 20 ∧ Dw s1 ∧ ∀ (zs : List Str) (b : Ob), zs.length = many → zs.all nameS = true → Dw (s1.set 0 b) → Post (s1.set 0 b ++ [.lst (zs.map U.str)]) (.rf s1.length)) : suE K (tCall spWords [] E t) s Γ Post := fun W α σ H Q Ev k =>
  RD.call (h W α σ H _ Ev fun α1 s1 us vs H1 p1 k1 E1 r1 => by
    obtain ⟨many, rfl, m20, hD, pp⟩ := p1
    obtain ⟨v1, r', rfl, c1, c2⟩ := ru_cons.mp r1
    obtain ⟨v2, r'', rfl, c3, c4⟩ := ru_cons.mp c2
    obtain rfl := ru_nil.mp c4
    rw [ru_int.mp c3]
    obtain ⟨st, cl, ns, rfl, h1, g1, hd, hm, h0⟩ := dw_out E1.ok hD c1
    refine ⟨st, cl, ns, many, rfl, m20, hd, fun zs p H2 hl ha np hp hb hd2 => ?_⟩
    obtain ⟨nps, npc⟩ := hd.none np
    let H3 : Hp := fun b => if b = p then none else H2 b
    have e3 : ∀ b, b ≠ p → H3 b = H2 b := fun b hb => if_neg hb
    have n3 : H3 p = none := if_pos rfl
    have eH : upd H3 p (.lst (zs.map V.str)) = H2 := by
      funext b
      by_cases e : b = p
      · subst e; rw [upd_same]; exact hp.symm
      · rw [upd_ne e]; exact e3 b e
    have hb3 : Btw st H1 H3 := fun b u hn hu => by rw [e3 b fun z => by rw [z, np] at hu; cases hu]; exact hb b u hn hu
    have hd3 : D2 H3 st cl ns := by
      obtain ⟨at_, held, seed, left, q1, q2, q3⟩ := hd2.ex
      exact ⟨at_, held, seed, left, by rw [e3 _ nps.symm]; exact q1, by rw [e3 _ npc.symm]; exact q2, q3⟩
    obtain ⟨o, ee, ok2, dw⟩ := dw_in E1.ok h0 h1 g1 hm hb3 hd3
    have e4 := Ext.add (α := α1) (H := H3) (u := HO.lst (zs.map V.str)) n3
    have E4 := (E1.step ee ok2).step e4 (ok2.add n3 (b := .lst (zs.map U.str)) ⟨_, upd_same, ru_strs'⟩)
    rw [eH] at e4 E4
    exact k (α1 ++ [p]) _ (.rf s1.length) _ H2 (pp zs o hl ha dw) (k1.trans (ee.trans e4)) E4 (ru_rf.mpr ⟨p, by rw [E1.ok.len]; simp, rfl⟩))
end
end SF
set_option Elab.async false
set_option linter.all false
set_option maxRecDepth 100000
set_option maxHeartbeats 4000000
/-! k19's law over the store: rows, what they do -/
namespace SF
open PySem PySem.Spec PyProof.Rows L2 G0 SL
open C8 (Cal Mak Met pe_c pe_mk pe_mt pe_mt0 pe_gc)
/-- simple expressions of rows -/
inductive Sm where
  | non | word (z : Str) | name (n : Str)
inductive Rw where
  | lt (n : Str) (e : Sm) | se (n : Str) (e : Sm) | dd (e : Sm) | pr (e : Sm)
def Sm.u : Sm → U
  | .non => .tup [.str "none"]
  | .word z => .tup [.str "word", .str z]
  | .name n => .tup [.str "name", .str n]
def Rw.u : Rw → U
  | .lt n e => .tup [.str "let", .str n, e.u]
  | .se n e => .tup [.str "set", .str n, e.u]
  | .dd e => .tup [.str "do", e.u]
  | .pr e => .tup [.str "print", e.u]
def Rw.e : Rw → Sm
  | .lt _ e => e
  | .se _ e => e
  | .dd e => e
  | .pr e => e
/-- what each name holds, as text -/
abbrev Hd := List (Str × Str)
def hk (h : Hd) : List Key := h.map fun q => .inr q.1
def hv (h : Hd) : List U := h.map fun q => .str q.2
def hget (h : Hd) (n : Str) : Option Str := (h.find? fun q => decide (q.1 = n)).map (·.2)
def hhas (h : Hd) (n : Str) : Bool := h.any fun q => decide (q.1 = n)
def hput (h : Hd) (n z : Str) : Hd := if hhas h n = true then h.map (fun q => if q.1 = n then (q.1, z) else q) else h ++ [(n, z)]
theorem get_hd {n : Str} : ∀ {h : Hd}, getU (hk h) (hv h) (.inr n) = (hget h n).map U.str
  | [] => rfl
  | (a, b) :: h => by
    have ih := get_hd (n := n) (h := h)
    unfold getU hget hk hv at ih ⊢
    rw [List.map_cons, List.map_cons, List.zip_cons_cons, List.find?_cons, List.find?_cons]
    by_cases e : a = n
    · subst e; simp
    · rw [show decide ((Sum.inr a : Key) = .inr n) = false by simpa using e, show decide (a = n) = false by simpa using e]
      exact ih
theorem has_hd {n : Str} : ∀ {h : Hd}, BV.hasB (hk h) (.inr n) = hhas h n
  | [] => rfl
  | (a, b) :: h => by
    have ih := has_hd (n := n) (h := h)
    unfold BV.hasB hhas hk at ih ⊢
    rw [List.map_cons, List.any_cons, List.any_cons, ih]
    congr 1
    simp
theorem put_hd {n z : Str} {h : Hd} : putU (hk h) (hv h) (.inr n) (.str z) = (hk (hput h n z), hv (hput h n z)) := by
  unfold putU hput
  rw [has_hd]
  cases hhas h n with
  | true =>
    rw [if_pos rfl, if_pos rfl]
    unfold hk hv
    congr 1
    · rw [List.map_map]
      refine List.map_congr_left fun q _ => ?_
      show Sum.inr q.1 = Sum.inr (if q.1 = n then (q.1, z) else q).1
      split <;> rfl
    · rw [List.map_map]
      induction h with
      | nil => rfl
      | cons q h ih =>
        rw [List.map_cons, List.map_cons, List.zip_cons_cons, List.map_cons, List.map_cons, ih]
        congr 1
        show (if (Sum.inr q.1 : Key) = .inr n then U.str z else .str q.2) = .str (if q.1 = n then (q.1, z) else q).2
        by_cases e : q.1 = n
        · rw [if_pos e, if_pos (by rw [e])]
        · rw [if_neg e, if_neg (fun x => e (Sum.inr.inj x))]
  | false =>
    rw [if_neg Bool.false_ne_true, if_neg Bool.false_ne_true]
    unfold hk hv
    rw [List.map_append, List.map_append]
    rfl
def txtOf (h : Hd) : Sm → Option Str
  | .non => some "none"
  | .word z => some z
  | .name n => hget h n
/-- what the row does: names, lines; none: it raises noname -/
def doR (h : Hd) (ls : List Str) : Rw → Option (Hd × List Str)
  | .lt n e => (txtOf h e).map fun z => (hput h n z, ls)
  | .se n e => match txtOf h e with
    | none => none
    | some z => if (hget h n).isSome = true then some (hput h n z, ls) else none
  | .dd e => (txtOf h e).map fun _ => (h, ls)
  | .pr e => (txtOf h e).map fun z => (h, ls ++ [z])
/-- all but what is named stays -/
structure Kx (X : Nat → Prop) (s s' : Sto) : Prop where
  len : s.length ≤ s'.length
  kp : ∀ i b, ¬ X i → s[i]? = some b → s'[i]? = some b
theorem Kx.refl {X : Nat → Prop} {s : Sto} : Kx X s s := ⟨Nat.le_refl _, fun _ _ _ h => h⟩
theorem Kx.trans {X : Nat → Prop} {s s1 s2 : Sto} (a : Kx X s s1) (b : Kx X s1 s2) : Kx X s s2 := ⟨Nat.le_trans a.len b.len, fun i o n h => b.kp i o n (a.kp i o n h)⟩
theorem Kx.app {X : Nat → Prop} {s l : Sto} : Kx X s (s ++ l) := ⟨by simp, fun i b _ h => by rw [List.getElem?_append_left (List.getElem?_eq_some_iff.mp h).1]; exact h⟩
theorem Kx.set {X : Nat → Prop} {s : Sto} {n : Nat} {b : Ob} (hx : X n) : Kx X s (s.set n b) := ⟨by simp, fun i o ni h => by rw [List.getElem?_set_ne (fun e => ni (by rw [← e]; exact hx))]; exact h⟩
theorem Kx.mono {X Y : Nat → Prop} {s s' : Sto} (a : Kx X s s') (h : ∀ i, X i → Y i) : Kx Y s s' := ⟨a.len, fun i b n => a.kp i b fun z => n (h i z)⟩
def WText (s : Sto) (us : List U) (R : Sto → U → Prop) : Prop := ∃ (e : Sm) (d : Nat) (h : Hd), us = [e.u, .rf d] ∧ s[d]? = some (.dct (hk h) (hv h)) ∧ R (s ++ [.lst ((txtOf h e).toList.map U.str)]) (.rf s.length)
def doneU : U := .tup [.str "done"]
def raisedU : U := .tup [.str "raised", .str "noname"]
def WDo (s : Sto) (us : List U) (R : Sto → U → Prop) : Prop := ∃ (r : Rw) (d l : Nat) (h : Hd) (ls : List Str), us = [r.u, .rf d, .rf l] ∧ s[d]? = some (.dct (hk h) (hv h)) ∧ s[l]? = some (.lst (ls.map U.str)) ∧ h.length < 1000 ∧ ls.length < 1000 ∧
  (∀ s', doR h ls r = none → Kx (fun _ => False) s s' → R s' raisedU) ∧ ∀ s' h' ls', doR h ls r = some (h', ls') → Kx (fun i => i = d ∨ i = l) s s' → s'[d]? = some (.dct (hk h') (hv h')) → s'[l]? = some (.lst (ls'.map U.str)) → R s' doneU
section
variable {P : Program} {w : World} {K : PySem.W.Frag} {mg : Str → Option Value} {base : Heap}
set_option synthInstance.maxSize 100000
set_option synthInstance.maxHeartbeats 0
local macro_rules | `(tactic| walk_at "bvg2") => `(tactic| first
  | ((with_reducible refine And.intro (show List.length _ ≤ sizeLine from ?hz) ?_); (case hz => exact Nat.le_of_ble_eq_true rfl)) | ((with_reducible refine And.intro (show List.length _ < sizeLine from ?hz) ?_); (case hz => exact Nat.le_of_ble_eq_true rfl))
  | ((with_reducible refine RD.ifDT ?hd ?_); (case hd => first | decide +kernel | exact rfl)) | ((with_reducible refine RD.ifDF ?hd ?_); (case hd => first | decide +kernel | exact rfl))
  | ((with_reducible refine BV.catT ?hz ?_); (case hz => exact Nat.le_of_ble_eq_true rfl)) | ((with_reducible refine BV.catL ?hz ?_); (case hz => exact Nat.le_of_ble_eq_true rfl))
  | (with_reducible refine BV.ofN (BV.dNew ?_))
  | ((with_reducible apply BV.gtup); exact rfl)
  | ((with_reducible refine BV.vname ?hh ?_); (case hh => decide)) | ((with_reducible apply BV.vtup); exact rfl))
local macro_rules | `(tactic| walk_at "bvg1") => `(tactic| first
  | (with_reducible refine BV.strJoin ?_)
  | (with_reducible first | refine BV.i0 ?_ | refine BV.i0b ?_)
  | ((with_reducible apply BV.ixT); exact rfl) | (with_reducible refine BV.ixT BV.at0' ?_) | ((with_reducible apply BV.ixL); exact rfl)
  | ((with_reducible apply BV.lenO); exact rfl)
  | ((with_reducible refine BV.isi ?hh ?hp ?_); (case hh => decide +kernel); (case hp => exact rfl)) | ((with_reducible refine BV.isN ?hp ?_); (case hp => exact rfl)) | ((with_reducible refine BV.notN ?hp ?_); (case hp => exact rfl)))
local macro_rules | `(tactic| walk_at "bvg0") => `(tactic| first
  | ((with_reducible apply BV.var); exact rfl)
  | ((with_reducible apply BV.retO); exact rfl) | (with_reducible refine BV.ret ?_) | ((with_reducible apply BV.asgPop); exact rfl) | (with_reducible refine BV.asg ?_) | ((with_reducible apply BV.asgPopG); exact rfl) | (with_reducible refine BV.asgG ?_)
  | ((with_reducible apply BV.append); exact rfl) | ((with_reducible apply BV.extend); exact rfl) | ((with_reducible apply BV.augI); exact rfl) | ((with_reducible apply BV.truO); exact rfl) | (with_reducible refine BV.dropE ?_)
  | ((with_reducible refine BV.isiT2 ?h1 ?h2 ?_); (case h1 => decide +kernel); (case h2 => decide +kernel)) | ((with_reducible refine And.intro (show isPlainB _ = true from ?hz) ?_); (case hz => exact rfl)) | ((with_reducible refine BV.listVals ?hu ?_); (case hu => trivial)))
local macro_rules | `(tactic| walk_at "bvgu") => `(tactic| first
  | ((with_reducible apply SL.ixT); exact rfl) | (with_reducible refine SL.ixT SL.at0U ?_) | (with_reducible refine SL.ixT SL.at1U ?_)
  | ((with_reducible apply SL.fldAt); (case hs => assumption); (case kc => assumption); (case hf => decide); (case hu => exact rfl))
  | ((with_reducible apply SL.methAt); (case hs => assumption); (case hm => decide)))
local macro_rules | `(tactic| walk_at "bv1") => `(tactic| first | (with_reducible refine BVSt.mp ?_) | walk_at "bvg0" | walk_at "bvg1" | walk_at "bvg2")
local macro_rules | `(tactic| walk_at "bv") => `(tactic| repeat first | (with_reducible refine bvRun ?_) | (with_reducible refine BVSt.mp ?_) | walk_at "bvg0" | walk_at "bvg1" | walk_at "bvg2")
local macro_rules | `(tactic| walk_at "bu") => `(tactic| repeat first | (with_reducible refine bvRun ?_) | (with_reducible refine BVSt.mp ?_) | walk_at "bvgu" | walk_at "bvg0" | walk_at "bvg1" | walk_at "bvg2")
theorem sc__law_text : FnScope ["_law_simple_here", "_law_held"] ["_law_simple_here", "_law_held"] (defScope (topS 81)) := ⟨rfl, rfl, rfl, by decide +kernel, rfl, by decide +kernel, by decide +kernel⟩
theorem ok_text (T : TxtR K mg) {f : Addr} {fd : FuncData} (F : Fun K "_law_text" "_law_text" (topS 81) f fd) : FnOk P w K mg base CX0 1 f fd ["_law_simple_here", "_law_held"] (SpU K WText) := by
  refine F.ok sc__law_text (fun vs H Q E h => SL.spLen (fun s us R hW => by obtain ⟨e, d, h, rfl, _⟩ := hW; rfl) h) (fun cdv A outer s H vs Q E hr h => ?_)
  have hu := hu_of hr
  refine ⟨_, (pss_cons (ps_if (pt_cmpR op_eq (pe_ix (r := rIxT K) ix_tup (pv 0) pe_int (fun _ _ => rfl)) pe_str (nomark _)) (pss_one (ps_ret (pe_lst (pa_cons (pe_ix (r := rIxT K) ix_tup (pv 0) pe_int (fun _ _ => rfl)) pa_nil)))) pss_nil)
      (pss_cons (ps_if (pt_cmpR op_eq (pe_ix (r := rIxT K) ix_tup (pv 0) pe_int (fun _ _ => rfl)) pe_str (nomark _)) (pss_one (ps_ret (pe_lst (pa_cons pe_str pa_nil)))) pss_nil)
      (pss_cons (ps_if (pt_cmp (pc_din hu (pe_ix (r := rIxT K) ix_tup (pv 0) pe_int (fun _ _ => rfl)) (pv 1))) (pss_one (ps_ret (pe_lst (pa_cons (pe_dget hu (pv 1) (pe_ix (r := rIxT K) ix_tup (pv 0) pe_int (fun _ _ => rfl)) (fun _ _ => rfl)) pa_nil)))) pss_nil)
      (pss_one (ps_ret (pe_lst pa_nil)))))), ?_⟩
  refine SL.body h _ fun s us R hW hl => ?_
  obtain ⟨e, d, h, rfl, hs, hq⟩ := hW
  change suS K _ s [some e.u, some (.rf d)] _
  try dsimp only [cxOf, Cx.nox]
  cases e with
  | non =>
    dsimp only [Sm.u]
    walk_at "bu"
    exact hq
  | word z =>
    dsimp only [Sm.u]
    walk_at "bu"
    exact hq
  | name n =>
    dsimp only [Sm.u]
    have e0 : getU (hk h) (hv h) (.inr n) = (hget h n).map U.str := get_hd
    dsimp only [txtOf] at hq
    walk_at "bu"
    refine SL.din ?_
    walk_at "bu"
    refine ⟨_, _, _, .inr n, rfl, hs, rfl, ?_⟩
    rw [e0]
    cases e1 : hget h n with
    | none =>
      rw [e1] at hq
      walk_at "bu"
      exact hq
    | some z =>
      rw [e1] at hq e0
      walk_at "bu"
      refine SL.dget ?_
      walk_at "bu"
      refine ⟨_, _, _, .inr n, _, rfl, hs, rfl, e0, ?_⟩
      walk_at "bu"
      exact hq
theorem sc__law_do : FnScope ["_law_row_here", "_law_held", "_law_lines", "_law_text_here"] ["_law_row_here", "_law_held", "_law_lines"] (defScope (topS 82)) := ⟨rfl, rfl, rfl, by decide +kernel, rfl, by decide +kernel, by decide +kernel⟩
theorem ok_do (T : TxtR K mg) (c__law_text : Cal P w K mg base 1 "_law_text" (SpU K WText) []) {f : Addr} {fd : FuncData} (F : Fun K "_law_do" "_law_do" (topS 82) f fd) : FnOk P w K mg base CX0 2 f fd ["_law_row_here", "_law_held", "_law_lines"] (SpU K WDo) := by
  refine F.ok sc__law_do (fun vs H Q E h => SL.spLen (fun s us R hW => by obtain ⟨r, d, l, h, ls, rfl, _⟩ := hW; rfl) h) (fun cdv A outer s H vs Q E hr h => ?_)
  have hu := hu_of hr
  refine ⟨_, (pss_cons (ps_set (i := 3) sc__law_do.nd rfl (Or.inl rfl) (pe_c c__law_text hr (by decide) (by rfl) (pa_cons (pe_ix (r := rIxT K) ix_tup (pv 0) (pe_un un_neg pe_int) (fun _ _ => rfl)) (pa_cons (pv 1) pa_nil))))
      (pss_cons (ps_if (pt_cmpR op_eq (pe_callB (r := SF.rLenQ K) call_lenQ (by rfl) T.b_len PySem.boot_len (pa_cons (pv 3) pa_nil)) pe_int (nomark _)) (pss_one (ps_ret (pe_tup (pa_cons pe_str (pa_cons pe_str pa_nil))))) pss_nil)
      (pss_cons (ps_if ((pw_and (pt_cmpR op_eq (pe_ix (r := rIxT K) ix_tup (pv 0) pe_int (fun _ _ => rfl)) pe_str (nomark _)) (pw_and1 (pt_cmp (pc_dnotin hu (pe_ix (r := rIxT K) ix_tup (pv 0) pe_int (fun _ _ => rfl)) (pv 1)))))).pt (pss_one (ps_ret (pe_tup (pa_cons pe_str (pa_cons pe_str pa_nil))))) pss_nil)
      (pss_cons (ps_if (pt_cmpR op_eq (pe_ix (r := rIxT K) ix_tup (pv 0) pe_int (fun _ _ => rfl)) pe_str (nomark _)) (pss_one (ps_expr (pe_bm PySem.F.plainAttrs_list PySem.F.slot_list_append PySem.F.type_list_append mt_append (pv 2) (pa_cons (pe_ix (r := rIxL K) ix_list (pv 3) pe_int (fun _ _ => rfl)) pa_nil)))) pss_nil)
      (pss_cons (ps_if ((pw_or (pt_cmpR op_eq (pe_ix (r := rIxT K) ix_tup (pv 0) pe_int (fun _ _ => rfl)) pe_str (nomark _)) (pw_or1 (pt_cmpR op_eq (pe_ix (r := rIxT K) ix_tup (pv 0) pe_int (fun _ _ => rfl)) pe_str (nomark _))))).pt (pss_one (ps_dput hu (pv 1) (pe_ix (r := rIxT K) ix_tup (pv 0) pe_int (fun _ _ => rfl)) (pe_ix (r := rIxL K) ix_list (pv 3) pe_int (fun _ _ => rfl)) rfl)) pss_nil)
      (pss_one (ps_ret (pe_tup (pa_cons pe_str pa_nil))))))))), ?_⟩
  refine SL.body h _ fun s us R hW hl => ?_
  obtain ⟨r, d, l, h, ls, rfl, hd, hls, n1, n2, q0, q1⟩ := hW
  change suS K _ s [some r.u, some (.rf d), some (.rf l), none] _
  try dsimp only [cxOf, Cx.nox]
  have e0 : ∀ n, getU (hk h) (hv h) (.inr n) = (hget h n).map U.str := fun n => get_hd
  have lx : ∀ b : Ob, (s ++ [b])[s.length]? = some b := fun b => newAt
  have hd1 : ∀ b : Ob, (s ++ [b])[d]? = some (.dct (hk h) (hv h)) := fun b => Kx.app.kp (X := fun _ => False) d _ id hd
  have hl1 : ∀ b : Ob, (s ++ [b])[l]? = some (.lst (ls.map U.str)) := fun b => Kx.app.kp (X := fun _ => False) l _ id hls
  have dl : d ≠ l := fun z => by rw [z, hls] at hd; cases hd
  have dl2 := (List.getElem?_eq_some_iff.mp hd).1
  have ll2 := (List.getElem?_eq_some_iff.mp hls).1
  cases r with
  | lt n e =>
    dsimp only [Rw.u]
    walk_at "bu"
    refine ⟨e, d, h, rfl, hd, ?_⟩
    cases ez : txtOf h e with
    | none =>
      walk_at "bu"
      exact q0 _ (by dsimp only [doR]; rw [ez]; try rfl) Kx.app
    | some z =>
      dsimp only [Option.toList, List.map]
      walk_at "bu"
      refine SL.dput ?_
      walk_at "bu"
      refine SL.ixL (lx _) at0U ?_
      walk_at "bu"
      refine ⟨_, _, _, .inr n, rfl, hd1 _, rfl, by unfold hk; rw [List.length_map]; exact Nat.lt_of_lt_of_le n1 (by decide), ?_⟩
      rw [put_hd]
      walk_at "bu"
      exact q1 _ (hput h n z) ls (by dsimp only [doR]; rw [ez]; rfl) (Kx.app.trans (Kx.set (.inl rfl))) (List.getElem?_set_self (by rw [List.length_append]; omega)) (by rw [List.getElem?_set_ne dl]; exact hl1 _)
  | se n e =>
    dsimp only [Rw.u]
    walk_at "bu"
    refine ⟨e, d, h, rfl, hd, ?_⟩
    cases ez : txtOf h e with
    | none =>
      walk_at "bu"
      exact q0 _ (by dsimp only [doR]; rw [ez]; try rfl) Kx.app
    | some z =>
      dsimp only [Option.toList, List.map]
      walk_at "bu"
      refine SL.dnin ?_
      walk_at "bu"
      refine ⟨_, _, _, .inr n, rfl, hd1 _, rfl, ?_⟩
      rw [e0]
      cases e1 : hget h n with
      | none =>
        walk_at "bu"
        exact q0 _ (by dsimp only [doR]; rw [ez]; dsimp only; rw [e1]; exact if_neg Bool.false_ne_true) Kx.app
      | some y =>
        walk_at "bu"
        refine SL.dput ?_
        walk_at "bu"
        refine SL.ixL (lx _) at0U ?_
        walk_at "bu"
        refine ⟨_, _, _, .inr n, rfl, hd1 _, rfl, by unfold hk; rw [List.length_map]; exact Nat.lt_of_lt_of_le n1 (by decide), ?_⟩
        rw [put_hd]
        walk_at "bu"
        exact q1 _ (hput h n z) ls (by dsimp only [doR]; rw [ez]; dsimp only; rw [e1]; exact if_pos rfl) (Kx.app.trans (Kx.set (.inl rfl))) (List.getElem?_set_self (by rw [List.length_append]; omega)) (by rw [List.getElem?_set_ne dl]; exact hl1 _)
  | dd e =>
    dsimp only [Rw.u]
    walk_at "bu"
    refine ⟨e, d, h, rfl, hd, ?_⟩
    cases ez : txtOf h e with
    | none =>
      walk_at "bu"
      exact q0 _ (by dsimp only [doR]; rw [ez]; try rfl) Kx.app
    | some z =>
      dsimp only [Option.toList, List.map]
      walk_at "bu"
      exact q1 _ h ls (by dsimp only [doR]; rw [ez]; rfl) Kx.app (hd1 _) (hl1 _)
  | pr e =>
    dsimp only [Rw.u]
    walk_at "bu"
    refine ⟨e, d, h, rfl, hd, ?_⟩
    cases ez : txtOf h e with
    | none =>
      walk_at "bu"
      exact q0 _ (by dsimp only [doR]; rw [ez]; try rfl) Kx.app
    | some z =>
      dsimp only [Option.toList, List.map]
      walk_at "bu"
      refine SL.lstAt_and (hl1 _) ?_
      walk_at "bu"
      refine SL.ixL (lx _) at0U ?_
      walk_at "bu"
      refine SL.append (hl1 _) ⟨by rw [List.length_map]; exact Nat.lt_of_lt_of_le n2 (by decide), ?_⟩
      walk_at "bu"
      refine q1 _ h (ls ++ [z]) (by dsimp only [doR]; rw [ez]; rfl) (Kx.app.trans (Kx.set (.inr rfl))) (by rw [List.getElem?_set_ne dl.symm]; exact hd1 _) ?_
      rw [List.getElem?_set_self (by rw [List.length_append]; omega), List.map_append]
      rfl
end
end SF
set_option Elab.async false
set_option linter.all false
set_option maxRecDepth 100000
set_option maxHeartbeats 4000000
/-! k19's law over the store: rows that are drawn -/
namespace SF
open PySem PySem.Spec PyProof.Rows L2 G0 SL
open C8 (Cal Mak Met pe_c pe_mk pe_mt pe_mt0 pe_gc)
abbrev X0 (i : Nat) : Prop := i = 0
def WNm (s : Sto) (us : List U) (R : Sto → U → Prop) : Prop := ∃ (ns d : Nat) (zs : List Str) (h : Hd), us = [.rf 0, .rf ns, .rf d] ∧ Dw s ∧ ns ≠ 0 ∧ d ≠ 0 ∧ s[ns]? = some (.lst (zs.map U.str)) ∧ 0 < zs.length ∧ zs.length ≤ 6 ∧ s[d]? = some (.dct (hk h) (hv h)) ∧ ∀ s' z, z ∈ zs → Kx X0 s s' → Dw s' → R s' (.str z)
section
variable {P : Program} {w : World} {K : PySem.W.Frag} {mg : Str → Option Value} {base : Heap}
theorem dw_app {s l : Sto} (h : Dw s) : Dw (s ++ l) := by
  obtain ⟨ns, i, held, seed, left, h1, h2, h3⟩ := h
  exact ⟨ns, i, held, seed, left, by rw [List.getElem?_append_left (List.getElem?_eq_some_iff.mp h1).1]; exact h1, by rw [List.getElem?_append_left (List.getElem?_eq_some_iff.mp h2).1]; exact h2, h3⟩
theorem at_str {zs : List Str} {k : Nat} (h : k < zs.length) : atI (zs.map U.str) (k : Int) = some (.str zs[k]) := atN (l := zs.map U.str) (n := k) (by rw [List.getElem?_map, List.getElem?_eq_getElem h]; rfl)
set_option synthInstance.maxSize 100000
set_option synthInstance.maxHeartbeats 0
local macro_rules | `(tactic| walk_at "bvg2") => `(tactic| first
  | ((with_reducible refine And.intro (show List.length _ ≤ sizeLine from ?hz) ?_); (case hz => exact Nat.le_of_ble_eq_true rfl)) | ((with_reducible refine And.intro (show List.length _ < sizeLine from ?hz) ?_); (case hz => exact Nat.le_of_ble_eq_true rfl))
  | ((with_reducible refine RD.ifDT ?hd ?_); (case hd => first | decide +kernel | exact rfl)) | ((with_reducible refine RD.ifDF ?hd ?_); (case hd => first | decide +kernel | exact rfl))
  | ((with_reducible refine BV.catT ?hz ?_); (case hz => exact Nat.le_of_ble_eq_true rfl)) | ((with_reducible refine BV.catL ?hz ?_); (case hz => exact Nat.le_of_ble_eq_true rfl))
  | (with_reducible refine BV.ofN (BV.dNew ?_))
  | ((with_reducible apply BV.gtup); exact rfl)
  | ((with_reducible refine BV.vname ?hh ?_); (case hh => decide)) | ((with_reducible apply BV.vtup); exact rfl))
local macro_rules | `(tactic| walk_at "bvg1") => `(tactic| first
  | (with_reducible refine BV.strJoin ?_)
  | (with_reducible first | refine BV.i0 ?_ | refine BV.i0b ?_)
  | ((with_reducible apply BV.ixT); exact rfl) | (with_reducible refine BV.ixT BV.at0' ?_) | ((with_reducible apply BV.ixL); exact rfl)
  | ((with_reducible apply BV.lenO); exact rfl)
  | ((with_reducible refine BV.isi ?hh ?hp ?_); (case hh => decide +kernel); (case hp => exact rfl)) | ((with_reducible refine BV.isN ?hp ?_); (case hp => exact rfl)) | ((with_reducible refine BV.notN ?hp ?_); (case hp => exact rfl)))
local macro_rules | `(tactic| walk_at "bvg0") => `(tactic| first
  | ((with_reducible apply BV.var); exact rfl)
  | ((with_reducible apply BV.retO); exact rfl) | (with_reducible refine BV.ret ?_) | ((with_reducible apply BV.asgPop); exact rfl) | (with_reducible refine BV.asg ?_) | ((with_reducible apply BV.asgPopG); exact rfl) | (with_reducible refine BV.asgG ?_)
  | ((with_reducible apply BV.append); exact rfl) | ((with_reducible apply BV.extend); exact rfl) | ((with_reducible apply BV.augI); exact rfl) | ((with_reducible apply BV.truO); exact rfl) | (with_reducible refine BV.dropE ?_)
  | ((with_reducible refine BV.isiT2 ?h1 ?h2 ?_); (case h1 => decide +kernel); (case h2 => decide +kernel)) | ((with_reducible refine And.intro (show isPlainB _ = true from ?hz) ?_); (case hz => exact rfl)) | ((with_reducible refine BV.listVals ?hu ?_); (case hu => trivial)))
local macro_rules | `(tactic| walk_at "bvgu") => `(tactic| first
  | ((with_reducible apply SL.ixT); exact rfl) | (with_reducible refine SL.ixT SL.at0U ?_) | (with_reducible refine SL.ixT SL.at1U ?_)
  | ((with_reducible apply SL.fldAt); (case hs => assumption); (case kc => assumption); (case hf => decide); (case hu => exact rfl))
  | ((with_reducible apply SL.methAt); (case hs => assumption); (case hm => decide)))
local macro_rules | `(tactic| walk_at "bv1") => `(tactic| first | (with_reducible refine BVSt.mp ?_) | walk_at "bvg0" | walk_at "bvg1" | walk_at "bvg2")
local macro_rules | `(tactic| walk_at "bv") => `(tactic| repeat first | (with_reducible refine bvRun ?_) | (with_reducible refine BVSt.mp ?_) | walk_at "bvg0" | walk_at "bvg1" | walk_at "bvg2")
local macro_rules | `(tactic| walk_at "bu") => `(tactic| repeat first | (with_reducible refine bvRun ?_) | (with_reducible refine BVSt.mp ?_) | walk_at "bvgu" | walk_at "bvg0" | walk_at "bvg1" | walk_at "bvg2")
theorem sc__law_name : FnScope ["_law_state", "_law_names", "_law_held", "_law_known", "_law_name_here"] ["_law_state", "_law_names", "_law_held"] (defScope (topS 78)) := ⟨rfl, rfl, rfl, by decide +kernel, rfl, by decide +kernel, by decide +kernel⟩
theorem ok_name (T : TxtR K mg) (c__law_draw : Cal P w K mg base 2 "_law_draw" spDraw2 []) {f : Addr} {fd : FuncData} (F : Fun K "_law_name" "_law_name" (topS 78) f fd) : FnOk P w K mg base CX0 3 f fd ["_law_state", "_law_names", "_law_held"] (SpU K WNm) := by
  refine F.ok sc__law_name (fun vs H Q E h => SL.spLen (fun s us R hW => by obtain ⟨ns, d, zs, h, rfl, _⟩ := hW; rfl) h) (fun cdv A outer s H vs Q E hr h => ?_)
  have hu := hu_of hr
  refine ⟨_, (pss_cons (ps_setLc (i := 3) (own := [("_law_name_here", 4)]) rfl sc__law_name.nd rfl rfl (sw_true rfl rfl rfl (by decide +kernel)) (pi_list (pv 1)) (blkOk_by (N := ["_law_state", "_law_names", "_law_held", "_law_known", "_law_name_here"]) (sc := defScope (topS 78)) (by decide +kernel)) (fun _ _ _ _ _ => (pg_name (i := 4) sc__law_name.nd rfl (Or.inl rfl))) (fun _ _ _ _ _ => pts_one (pt_cmp (pc_din hu (pv 4) (pv 2)))) (fun _ _ _ _ _ => (pv 4)))
      (pss_cons (ps_if ((pw_and (pt_cmpR op_gt (pe_callB (r := SF.rLenQ K) call_lenQ (by rfl) T.b_len PySem.boot_len (pa_cons (pv 3) pa_nil)) pe_int (nomark _)) (pw_and1 (pt_cmpR op_gt (pe_c c__law_draw hr (by decide) (by rfl) (pa_cons (pv 0) (pa_cons pe_int pa_nil))) pe_int (nomark _))))).pt (pss_one (ps_ret (pe_ix (r := rIxL K) ix_list (pv 3) (pe_c c__law_draw hr (by decide) (by rfl) (pa_cons (pv 0) (pa_cons (pe_callB (r := SF.rLenQ K) call_lenQ (by rfl) T.b_len PySem.boot_len (pa_cons (pv 3) pa_nil)) pa_nil))) (fun _ _ => rfl)))) pss_nil)
      (pss_one (ps_ret (pe_ix (r := rIxL K) ix_list (pv 1) (pe_c c__law_draw hr (by decide) (by rfl) (pa_cons (pv 0) (pa_cons (pe_callB (r := SF.rLenQ K) call_lenQ (by rfl) T.b_len PySem.boot_len (pa_cons (pv 1) pa_nil)) pa_nil))) (fun _ _ => rfl)))))), ?_⟩
  refine SL.body h _ fun s us R hW hl => ?_
  obtain ⟨ns, d, zs, h, rfl, hD, n0, d0, hn, z0, z6, hd, hq⟩ := hW
  change suS K _ s [some (.rf 0), some (.rf ns), some (.rf d), none, none] _
  try dsimp only [cxOf, Cx.nox]
  walk_at "bu"
  refine SL.lc (SL.wlist ?_)
  walk_at "bu"
  refine ⟨ns, _, rfl, hn, ?_⟩
  refine ⟨fun k s2 acc => s2 = s ++ [.lst acc] ∧ acc = ((zs.take k).filter fun z => (hget h z).isSome).map U.str, ⟨rfl, rfl⟩, fun k s2 acc ⟨e, _⟩ => ?_, fun k y s2 acc hy ⟨e, ea⟩ => ?_, fun s2 acc ⟨e, ea⟩ => ?_⟩
  · subst e
    exact ⟨Kx.app.kp (X := fun _ => False) ns _ id hn, newAt⟩
  · subst e
    rw [List.getElem?_map] at hy
    cases ek : zs[k]? with
    | none => rw [ek] at hy; cases hy
    | some z =>
      rw [ek] at hy
      obtain rfl := (Option.some.inj hy).symm
      dsimp only [wipeU, List.map, List.set]
      refine SL.vname (by decide) ?_
      walk_at "bu"
      refine SL.din ?_
      walk_at "bu"
      refine ⟨_, _, _, .inr z, rfl, Kx.app.kp (X := fun _ => False) d _ id hd, rfl, ?_⟩
      rw [get_hd]
      have et : zs.take (k + 1) = zs.take k ++ [z] := by rw [List.take_succ, ek]; rfl
      have ll : acc.length ≤ 6 := by rw [ea, List.length_map]; exact Nat.le_trans (List.length_filter_le _ _) (by rw [List.length_take]; omega)
      cases ez : hget h z with
      | none =>
        walk_at "bu"
        refine ⟨rfl, ?_⟩
        rw [ea, et, List.filter_append, List.filter_cons_of_neg (by rw [ez]; exact Bool.false_ne_true)]
        simp
      | some y =>
        walk_at "bu"
        refine ⟨newAt, Nat.lt_of_le_of_lt ll (by decide), by rw [List.set_append_right _ _ (Nat.le_refl _), Nat.sub_self]; rfl, ?_⟩
        rw [ea, et, List.filter_append, List.filter_cons_of_pos (by rw [ez]; rfl), List.map_append]
        rfl
  · subst e
    rw [List.length_map, List.take_length] at ea
    subst ea
    have ksub : ∀ z ∈ zs.filter fun z => (hget h z).isSome, z ∈ zs := fun z hz => (List.mem_filter.mp hz).1
    have klen : (zs.filter fun z => (hget h z).isSome).length ≤ 6 := Nat.le_trans (List.length_filter_le _ _) z6
    generalize (zs.filter fun z => (hget h z).isSome) = kn at ksub klen
    have k1 : Kx X0 s (s ++ [Ob.lst (kn.map U.str)]) := Kx.app
    have D1 := dw_app (l := [Ob.lst (kn.map U.str)]) hD
    have l1 : (s ++ [Ob.lst (kn.map U.str)])[s.length]? = some (Ob.lst (kn.map U.str)) := newAt
    have sl0 : s.length ≠ 0 := by have := (List.getElem?_eq_some_iff.mp hn).1; omega
    generalize s ++ [Ob.lst (kn.map U.str)] = s1 at k1 D1 l1
    generalize s.length = q at l1 sl0
    have n1 := k1.kp ns _ n0 hn
    walk_at "bu"
    refine SL.lenL l1 ?_
    walk_at "bu"
    refine ite2 (fun h1 => ?_) (fun h1 => ?_)
    · have h1 := of_decide_eq_true h1
      rw [List.length_map] at h1
      walk_at "bu"
      refine ⟨70, rfl, D1, by decide, by decide, fun a o ha D2 => ?_⟩
      have k2 := k1.trans (Kx.set (n := 0) (b := o) rfl)
      have n2 := k2.kp ns _ n0 hn
      have l2 : (s1.set 0 o)[q]? = some (Ob.lst (kn.map U.str)) := by rw [List.getElem?_set_ne sl0.symm]; exact l1
      generalize s1.set 0 o = s2 at k2 D2 n2 l2
      walk_at "bu"
      refine ite2 (fun h2 => ?_) (fun h2 => ?_)
      · walk_at "bu"
        refine SL.lenL l2 ?_
        walk_at "bu"
        refine ⟨kn.length, by rw [List.length_map], D2, by omega, by omega, fun c o3 hc D4 => ?_⟩
        have k3 := k2.trans (Kx.set (n := 0) (b := o3) rfl)
        refine SL.ixL (by rw [List.getElem?_set_ne sl0.symm]; exact l2) (at_str hc) ?_
        exact hq _ _ (ksub _ (List.getElem_mem hc)) k3 D4
      · walk_at "bu"
        refine SL.lenL n2 ?_
        walk_at "bu"
        refine ⟨zs.length, by rw [List.length_map], D2, z0, by omega, fun c o3 hc D4 => ?_⟩
        have k3 := k2.trans (Kx.set (n := 0) (b := o3) rfl)
        refine SL.ixL (k3.kp ns _ n0 hn) (at_str hc) ?_
        exact hq _ _ (List.getElem_mem hc) k3 D4
    · have k2 := k1
      have D2 := D1
      have n2 := n1
      walk_at "bu"
      refine SL.lenL n2 ?_
      walk_at "bu"
      refine ⟨zs.length, by rw [List.length_map], D2, z0, by omega, fun c o3 hc D4 => ?_⟩
      have k3 := k2.trans (Kx.set (n := 0) (b := o3) rfl)
      refine SL.ixL (k3.kp ns _ n0 hn) (at_str hc) ?_
      exact hq _ _ (List.getElem_mem hc) k3 D4
end
end SF
set_option Elab.async false
set_option linter.all false
set_option maxRecDepth 100000
set_option maxHeartbeats 4000000
/-! k19's law over the store: simple expressions and rows that are drawn -/
namespace SF
open PySem PySem.Spec PyProof.Rows L2 G0 SL
open C8 (Cal Mak Met pe_c pe_mk pe_mt pe_mt0 pe_gc)
def okSm (zs : List Str) : Sm → Prop
  | .non => True
  | .word z => nameS z = true
  | .name n => n ∈ zs
def okRw (zs : List Str) : Rw → Prop
  | .lt n e => n ∈ zs ∧ okSm zs e
  | .se n e => n ∈ zs ∧ okSm zs e
  | .dd e => okSm zs e
  | .pr e => okSm zs e
/-- what stands where a row is drawn -/
structure DrAt (s : Sto) (ns d : Nat) (zs : List Str) (h : Hd) : Prop where
  dw : Dw s
  n0 : ns ≠ 0
  d0 : d ≠ 0
  hn : s[ns]? = some (.lst (zs.map U.str))
  z0 : 0 < zs.length
  z6 : zs.length ≤ 6
  hd : s[d]? = some (.dct (hk h) (hv h))
theorem DrAt.step {s s' : Sto} {ns d : Nat} {zs : List Str} {h : Hd} (a : DrAt s ns d zs h) (k : Kx X0 s s') (dw : Dw s') : DrAt s' ns d zs h := ⟨dw, a.n0, a.d0, k.kp ns _ a.n0 a.hn, a.z0, a.z6, k.kp d _ a.d0 a.hd⟩
theorem DrAt.set0 {s : Sto} {ns d : Nat} {zs : List Str} {h : Hd} {o : Ob} (a : DrAt s ns d zs h) (dw : Dw (s.set 0 o)) : DrAt (s.set 0 o) ns d zs h := a.step (Kx.set rfl) dw
def WSm (s : Sto) (us : List U) (R : Sto → U → Prop) : Prop := ∃ ns d zs h, us = [.rf 0, .rf ns, .rf d] ∧ DrAt s ns d zs h ∧ ∀ s' e, okSm zs e → Kx X0 s s' → Dw s' → R s' e.u
def WRw (s : Sto) (us : List U) (R : Sto → U → Prop) : Prop := ∃ ns d zs h, us = [.rf 0, .rf ns, .rf d] ∧ DrAt s ns d zs h ∧ ∀ s' r, okRw zs r → Kx X0 s s' → Dw s' → R s' r.u
section
variable {P : Program} {w : World} {K : PySem.W.Frag} {mg : Str → Option Value} {base : Heap}
set_option synthInstance.maxSize 100000
set_option synthInstance.maxHeartbeats 0
local macro_rules | `(tactic| walk_at "bvg2") => `(tactic| first
  | ((with_reducible refine And.intro (show List.length _ ≤ sizeLine from ?hz) ?_); (case hz => exact Nat.le_of_ble_eq_true rfl)) | ((with_reducible refine And.intro (show List.length _ < sizeLine from ?hz) ?_); (case hz => exact Nat.le_of_ble_eq_true rfl))
  | ((with_reducible refine RD.ifDT ?hd ?_); (case hd => first | decide +kernel | exact rfl)) | ((with_reducible refine RD.ifDF ?hd ?_); (case hd => first | decide +kernel | exact rfl))
  | ((with_reducible refine BV.catT ?hz ?_); (case hz => exact Nat.le_of_ble_eq_true rfl)) | ((with_reducible refine BV.catL ?hz ?_); (case hz => exact Nat.le_of_ble_eq_true rfl))
  | (with_reducible refine BV.ofN (BV.dNew ?_))
  | ((with_reducible apply BV.gtup); exact rfl)
  | ((with_reducible refine BV.vname ?hh ?_); (case hh => decide)) | ((with_reducible apply BV.vtup); exact rfl))
local macro_rules | `(tactic| walk_at "bvg1") => `(tactic| first
  | (with_reducible refine BV.strJoin ?_)
  | (with_reducible first | refine BV.i0 ?_ | refine BV.i0b ?_)
  | ((with_reducible apply BV.ixT); exact rfl) | (with_reducible refine BV.ixT BV.at0' ?_) | ((with_reducible apply BV.ixL); exact rfl)
  | ((with_reducible apply BV.lenO); exact rfl)
  | ((with_reducible refine BV.isi ?hh ?hp ?_); (case hh => decide +kernel); (case hp => exact rfl)) | ((with_reducible refine BV.isN ?hp ?_); (case hp => exact rfl)) | ((with_reducible refine BV.notN ?hp ?_); (case hp => exact rfl)))
local macro_rules | `(tactic| walk_at "bvg0") => `(tactic| first
  | ((with_reducible apply BV.var); exact rfl)
  | ((with_reducible apply BV.retO); exact rfl) | (with_reducible refine BV.ret ?_) | ((with_reducible apply BV.asgPop); exact rfl) | (with_reducible refine BV.asg ?_) | ((with_reducible apply BV.asgPopG); exact rfl) | (with_reducible refine BV.asgG ?_)
  | ((with_reducible apply BV.append); exact rfl) | ((with_reducible apply BV.extend); exact rfl) | ((with_reducible apply BV.augI); exact rfl) | ((with_reducible apply BV.truO); exact rfl) | (with_reducible refine BV.dropE ?_)
  | ((with_reducible refine BV.isiT2 ?h1 ?h2 ?_); (case h1 => decide +kernel); (case h2 => decide +kernel)) | ((with_reducible refine And.intro (show isPlainB _ = true from ?hz) ?_); (case hz => exact rfl)) | ((with_reducible refine BV.listVals ?hu ?_); (case hu => trivial)))
local macro_rules | `(tactic| walk_at "bvgu") => `(tactic| first
  | ((with_reducible apply SL.ixT); exact rfl) | (with_reducible refine SL.ixT SL.at0U ?_) | (with_reducible refine SL.ixT SL.at1U ?_)
  | ((with_reducible apply SL.fldAt); (case hs => assumption); (case kc => assumption); (case hf => decide); (case hu => exact rfl))
  | ((with_reducible apply SL.methAt); (case hs => assumption); (case hm => decide)))
local macro_rules | `(tactic| walk_at "bv1") => `(tactic| first | (with_reducible refine BVSt.mp ?_) | walk_at "bvg0" | walk_at "bvg1" | walk_at "bvg2")
local macro_rules | `(tactic| walk_at "bv") => `(tactic| repeat first | (with_reducible refine bvRun ?_) | (with_reducible refine BVSt.mp ?_) | walk_at "bvg0" | walk_at "bvg1" | walk_at "bvg2")
local macro_rules | `(tactic| walk_at "bu") => `(tactic| repeat first | (with_reducible refine bvRun ?_) | (with_reducible refine BVSt.mp ?_) | walk_at "bvgu" | walk_at "bvg0" | walk_at "bvg1" | walk_at "bvg2")
theorem sc__law_simple : FnScope ["_law_state", "_law_names", "_law_held", "_law_kind"] ["_law_state", "_law_names", "_law_held"] (defScope (topS 79)) := ⟨rfl, rfl, rfl, by decide +kernel, rfl, by decide +kernel, by decide +kernel⟩
theorem ok_simple (T : TxtR K mg) (c__law_draw : Cal P w K mg base 2 "_law_draw" spDraw2 []) (c__law_word : Cal P w K mg base 3 "_law_word" spWord []) (c__law_name : Cal P w K mg base 3 "_law_name" (SpU K WNm) []) {f : Addr} {fd : FuncData} (F : Fun K "_law_simple" "_law_simple" (topS 79) f fd) : FnOk P w K mg base CX0 4 f fd ["_law_state", "_law_names", "_law_held"] (SpU K WSm) := by
  refine F.ok sc__law_simple (fun vs H Q E h => SL.spLen (fun s us R hW => by obtain ⟨ns, d, zs, h, rfl, _⟩ := hW; rfl) h) (fun cdv A outer s H vs Q E hr h => ?_)
  have hu := hu_of hr
  refine ⟨_, (pss_cons (ps_set (i := 3) sc__law_simple.nd rfl (Or.inl rfl) (pe_c c__law_draw hr (by decide) (by rfl) (pa_cons (pv 0) (pa_cons pe_int pa_nil))))
      (pss_cons (ps_if (pt_cmpR op_eq (pv 3) pe_int (nomark _)) (pss_one (ps_ret (pe_tup (pa_cons pe_str pa_nil)))) pss_nil)
      (pss_cons (ps_if (pt_cmpR op_lt (pv 3) pe_int (nomark _)) (pss_one (ps_ret (pe_tup (pa_cons pe_str (pa_cons (pe_c c__law_word hr (by decide) (by rfl) (pa_cons (pv 0) pa_nil)) pa_nil))))) pss_nil)
      (pss_one (ps_ret (pe_tup (pa_cons pe_str (pa_cons (pe_c c__law_name hr (by decide) (by rfl) (pa_cons (pv 0) (pa_cons (pv 1) (pa_cons (pv 2) pa_nil)))) pa_nil)))))))), ?_⟩
  refine SL.body h _ fun s us R hW hl => ?_
  obtain ⟨ns, d, zs, h, rfl, a, hq⟩ := hW
  change suS K _ s [some (.rf 0), some (.rf ns), some (.rf d), none] _
  try dsimp only [cxOf, Cx.nox]
  walk_at "bu"
  refine ⟨8, rfl, a.dw, by decide, by decide, fun c o hc D1 => ?_⟩
  have k1 : Kx X0 s (s.set 0 o) := Kx.set rfl
  have a1 := a.set0 D1
  generalize s.set 0 o = s1 at k1 a1 D1
  walk_at "bu"
  refine ite2 (fun h1 => ?_) (fun h1 => ?_)
  · walk_at "bu"
    exact hq _ .non trivial k1 D1
  · walk_at "bu"
    refine ite2 (fun h2 => ?_) (fun h2 => ?_)
    · walk_at "bu"
      refine ⟨rfl, D1, fun z o2 hz hz8 D2 => ?_⟩
      walk_at "bu"
      exact hq _ (.word z) hz (k1.trans (Kx.set rfl)) D2
    · walk_at "bu"
      refine ⟨ns, d, zs, h, rfl, D1, a1.n0, a1.d0, a1.hn, a1.z0, a1.z6, a1.hd, fun s2 z hz k2 D2 => ?_⟩
      walk_at "bu"
      exact hq _ (.name z) hz (k1.trans k2) D2
theorem sc__law_row : FnScope ["_law_state", "_law_names", "_law_held", "_law_kind"] ["_law_state", "_law_names", "_law_held"] (defScope (topS 80)) := ⟨rfl, rfl, rfl, by decide +kernel, rfl, by decide +kernel, by decide +kernel⟩
theorem ok_row (T : TxtR K mg) (c__law_draw : Cal P w K mg base 2 "_law_draw" spDraw2 []) (c__law_word : Cal P w K mg base 3 "_law_word" spWord []) (c__law_name : Cal P w K mg base 3 "_law_name" (SpU K WNm) []) (c__law_simple : Cal P w K mg base 4 "_law_simple" (SpU K WSm) []) {f : Addr} {fd : FuncData} (F : Fun K "_law_row" "_law_row" (topS 80) f fd) : FnOk P w K mg base CX0 5 f fd ["_law_state", "_law_names", "_law_held"] (SpU K WRw) := by
  refine F.ok sc__law_row (fun vs H Q E h => SL.spLen (fun s us R hW => by obtain ⟨ns, d, zs, h, rfl, _⟩ := hW; rfl) h) (fun cdv A outer s H vs Q E hr h => ?_)
  have hu := hu_of hr
  refine ⟨_, (pss_cons (ps_set (i := 3) sc__law_row.nd rfl (Or.inl rfl) (pe_c c__law_draw hr (by decide) (by rfl) (pa_cons (pv 0) (pa_cons pe_int pa_nil))))
      (pss_cons (ps_if ((pw_and (pt_cmpR op_eq (pe_callB call_lenDk (by rfl) T.b_len PySem.boot_len (pa_cons (pv 2) pa_nil)) pe_int (nomark _)) (pw_and1 (pt_cmpR op_gt (pe_c c__law_draw hr (by decide) (by rfl) (pa_cons (pv 0) (pa_cons pe_int pa_nil))) pe_int (nomark _))))).pt (pss_one (ps_ret (pe_tup (pa_cons pe_str (pa_cons (pe_ix (r := rIxL K) ix_list (pv 1) (pe_c c__law_draw hr (by decide) (by rfl) (pa_cons (pv 0) (pa_cons (pe_callB (r := SF.rLenQ K) call_lenQ (by rfl) T.b_len PySem.boot_len (pa_cons (pv 1) pa_nil)) pa_nil))) (fun _ _ => rfl)) (pa_cons (pe_tup (pa_cons pe_str (pa_cons (pe_c c__law_word hr (by decide) (by rfl) (pa_cons (pv 0) pa_nil)) pa_nil))) pa_nil)))))) pss_nil)
      (pss_cons (ps_if (pt_cmpR op_lt (pv 3) pe_int (nomark _)) (pss_one (ps_ret (pe_tup (pa_cons pe_str (pa_cons (pe_ix (r := rIxL K) ix_list (pv 1) (pe_c c__law_draw hr (by decide) (by rfl) (pa_cons (pv 0) (pa_cons (pe_callB (r := SF.rLenQ K) call_lenQ (by rfl) T.b_len PySem.boot_len (pa_cons (pv 1) pa_nil)) pa_nil))) (fun _ _ => rfl)) (pa_cons (pe_c c__law_simple hr (by decide) (by rfl) (pa_cons (pv 0) (pa_cons (pv 1) (pa_cons (pv 2) pa_nil)))) pa_nil)))))) pss_nil)
      (pss_cons (ps_if (pt_cmpR op_eq (pv 3) pe_int (nomark _)) (pss_one (ps_ret (pe_tup (pa_cons pe_str (pa_cons (pe_c c__law_name hr (by decide) (by rfl) (pa_cons (pv 0) (pa_cons (pv 1) (pa_cons (pv 2) pa_nil)))) (pa_cons (pe_c c__law_simple hr (by decide) (by rfl) (pa_cons (pv 0) (pa_cons (pv 1) (pa_cons (pv 2) pa_nil)))) pa_nil)))))) pss_nil)
      (pss_cons (ps_if (pt_cmpR op_eq (pv 3) pe_int (nomark _)) (pss_one (ps_ret (pe_tup (pa_cons pe_str (pa_cons (pe_c c__law_simple hr (by decide) (by rfl) (pa_cons (pv 0) (pa_cons (pv 1) (pa_cons (pv 2) pa_nil)))) pa_nil))))) pss_nil)
      (pss_one (ps_ret (pe_tup (pa_cons pe_str (pa_cons (pe_c c__law_simple hr (by decide) (by rfl) (pa_cons (pv 0) (pa_cons (pv 1) (pa_cons (pv 2) pa_nil)))) pa_nil)))))))))), ?_⟩
  refine SL.body h _ fun s us R hW hl => ?_
  obtain ⟨ns, d, zs, h, rfl, a, hq⟩ := hW
  change suS K _ s [some (.rf 0), some (.rf ns), some (.rf d), none] _
  try dsimp only [cxOf, Cx.nox]
  walk_at "bu"
  refine ⟨7, rfl, a.dw, by decide, by decide, fun c o hc D1 => ?_⟩
  have k1 : Kx X0 s (s.set 0 o) := Kx.set rfl
  have a1 := a.set0 D1
  generalize s.set 0 o = s1 at k1 a1 D1
  walk_at "bu"
  refine SL.lenDk a1.hd ?_
  walk_at "bu"
  refine ite2 (fun p1 => ?_) (fun p1 => ?_)
  · walk_at "bu"
    refine ⟨8, rfl, D1, by decide, by decide, fun g o2 hg D2 => ?_⟩
    have k2 := k1.trans (Kx.set (n := 0) (b := o2) rfl)
    have a2 := a1.set0 D2
    generalize s1.set 0 o2 = s2 at k2 a2 D2
    walk_at "bu"
    refine ite2 (fun p2 => ?_) (fun p2 => ?_)
    · walk_at "bu"
      refine SL.lenL a2.hn ?_
      walk_at "bu"
      refine ⟨zs.length, by rw [List.length_map], a2.dw, a2.z0, by have := a2.z6; omega, fun i o3 hi D3 => ?_⟩
      have k3 := k2.trans (Kx.set (n := 0) (b := o3) rfl)
      have a3 := a2.set0 D3
      refine SL.ixL a3.hn (at_str hi) ?_
      walk_at "bu"
      refine ⟨rfl, D3, fun z o4 hz hz8 D4 => ?_⟩
      walk_at "bu"
      exact hq _ (.lt zs[i] (.word z)) ⟨List.getElem_mem hi, hz⟩ (k3.trans (Kx.set rfl)) D4
    · walk_at "bu"
      refine ite2 (fun q1 => ?_) (fun q1 => ?_)
      · walk_at "bu"
        refine SL.lenL a2.hn ?_
        walk_at "bu"
        refine ⟨zs.length, by rw [List.length_map], a2.dw, a2.z0, by have := a2.z6; omega, fun i o3 hi D3 => ?_⟩
        have k3 := k2.trans (Kx.set (n := 0) (b := o3) rfl)
        have a3 := a2.set0 D3
        refine SL.ixL a3.hn (at_str hi) ?_
        walk_at "bu"
        refine ⟨ns, d, zs, h, rfl, a3, fun s4 e he k4 D4 => ?_⟩
        walk_at "bu"
        exact hq _ (.lt zs[i] e) ⟨List.getElem_mem hi, he⟩ (k3.trans k4) D4
      · walk_at "bu"
        refine ite2 (fun q2 => ?_) (fun q2 => ?_)
        · walk_at "bu"
          refine ⟨ns, d, zs, h, rfl, a2.dw, a2.n0, a2.d0, a2.hn, a2.z0, a2.z6, a2.hd, fun s3 z hz k3 D3 => ?_⟩
          walk_at "bu"
          refine ⟨ns, d, zs, h, rfl, a2.step k3 D3, fun s4 e he k4 D4 => ?_⟩
          walk_at "bu"
          exact hq _ (.se z e) ⟨hz, he⟩ (k2.trans (k3.trans k4)) D4
        · walk_at "bu"
          refine ite2 (fun q3 => ?_) (fun q3 => ?_)
          · walk_at "bu"
            refine ⟨ns, d, zs, h, rfl, a2, fun s4 e he k4 D4 => ?_⟩
            walk_at "bu"
            exact hq _ (.dd e) he (k2.trans k4) D4
          · walk_at "bu"
            refine ⟨ns, d, zs, h, rfl, a2, fun s4 e he k4 D4 => ?_⟩
            walk_at "bu"
            exact hq _ (.pr e) he (k2.trans k4) D4
  · have k2 := k1
    have a2 := a1
    walk_at "bu"
    refine ite2 (fun q1 => ?_) (fun q1 => ?_)
    · walk_at "bu"
      refine SL.lenL a2.hn ?_
      walk_at "bu"
      refine ⟨zs.length, by rw [List.length_map], a2.dw, a2.z0, by have := a2.z6; omega, fun i o3 hi D3 => ?_⟩
      have k3 := k2.trans (Kx.set (n := 0) (b := o3) rfl)
      have a3 := a2.set0 D3
      refine SL.ixL a3.hn (at_str hi) ?_
      walk_at "bu"
      refine ⟨ns, d, zs, h, rfl, a3, fun s4 e he k4 D4 => ?_⟩
      walk_at "bu"
      exact hq _ (.lt zs[i] e) ⟨List.getElem_mem hi, he⟩ (k3.trans k4) D4
    · walk_at "bu"
      refine ite2 (fun q2 => ?_) (fun q2 => ?_)
      · walk_at "bu"
        refine ⟨ns, d, zs, h, rfl, a2.dw, a2.n0, a2.d0, a2.hn, a2.z0, a2.z6, a2.hd, fun s3 z hz k3 D3 => ?_⟩
        walk_at "bu"
        refine ⟨ns, d, zs, h, rfl, a2.step k3 D3, fun s4 e he k4 D4 => ?_⟩
        walk_at "bu"
        exact hq _ (.se z e) ⟨hz, he⟩ (k2.trans (k3.trans k4)) D4
      · walk_at "bu"
        refine ite2 (fun q3 => ?_) (fun q3 => ?_)
        · walk_at "bu"
          refine ⟨ns, d, zs, h, rfl, a2, fun s4 e he k4 D4 => ?_⟩
          walk_at "bu"
          exact hq _ (.dd e) he (k2.trans k4) D4
        · walk_at "bu"
          refine ⟨ns, d, zs, h, rfl, a2, fun s4 e he k4 D4 => ?_⟩
          walk_at "bu"
          exact hq _ (.pr e) he (k2.trans k4) D4
end
end SF
set_option Elab.async false
set_option linter.all false
set_option maxRecDepth 100000
set_option maxHeartbeats 4000000
/-! k19's law over the store: the rows as a block; what is told -/
namespace SF
open PySem PySem.Spec PyProof.Rows L2 G0 SL
open C8 (Cal Mak Met pe_c pe_mk pe_mt pe_mt0 pe_gc)
section
variable {P : Program} {w : World} {K : PySem.W.Frag} {mg : Str → Option Value} {base : Heap}
theorem fins_strs : ∀ zs : List Str, BV.finsB 2 (zs.map BV.B.str) = true
  | [] => rfl
  | z :: zs => by
    have ih := fins_strs zs
    rw [List.map_cons]
    unfold BV.finsB
    rw [ih]
    rfl
set_option synthInstance.maxSize 100000
set_option synthInstance.maxHeartbeats 0
local macro_rules | `(tactic| walk_at "bvg2") => `(tactic| first
  | ((with_reducible refine And.intro (show List.length _ ≤ sizeLine from ?hz) ?_); (case hz => exact Nat.le_of_ble_eq_true rfl)) | ((with_reducible refine And.intro (show List.length _ < sizeLine from ?hz) ?_); (case hz => exact Nat.le_of_ble_eq_true rfl))
  | ((with_reducible refine RD.ifDT ?hd ?_); (case hd => first | decide +kernel | exact rfl)) | ((with_reducible refine RD.ifDF ?hd ?_); (case hd => first | decide +kernel | exact rfl))
  | ((with_reducible refine BV.catT ?hz ?_); (case hz => exact Nat.le_of_ble_eq_true rfl)) | ((with_reducible refine BV.catL ?hz ?_); (case hz => exact Nat.le_of_ble_eq_true rfl))
  | (with_reducible refine BV.ofN (BV.dNew ?_))
  | ((with_reducible apply BV.gtup); exact rfl)
  | ((with_reducible refine BV.vname ?hh ?_); (case hh => decide)) | ((with_reducible apply BV.vtup); exact rfl))
local macro_rules | `(tactic| walk_at "bvg1") => `(tactic| first
  | (with_reducible refine BV.strJoin ?_)
  | (with_reducible first | refine BV.i0 ?_ | refine BV.i0b ?_)
  | ((with_reducible apply BV.ixT); exact rfl) | (with_reducible refine BV.ixT BV.at0' ?_) | ((with_reducible apply BV.ixL); exact rfl)
  | ((with_reducible apply BV.lenO); exact rfl)
  | ((with_reducible refine BV.isi ?hh ?hp ?_); (case hh => decide +kernel); (case hp => exact rfl)) | ((with_reducible refine BV.isN ?hp ?_); (case hp => exact rfl)) | ((with_reducible refine BV.notN ?hp ?_); (case hp => exact rfl)))
local macro_rules | `(tactic| walk_at "bvg0") => `(tactic| first
  | ((with_reducible apply BV.var); exact rfl)
  | ((with_reducible apply BV.retO); exact rfl) | (with_reducible refine BV.ret ?_) | ((with_reducible apply BV.asgPop); exact rfl) | (with_reducible refine BV.asg ?_) | ((with_reducible apply BV.asgPopG); exact rfl) | (with_reducible refine BV.asgG ?_)
  | ((with_reducible apply BV.append); exact rfl) | ((with_reducible apply BV.extend); exact rfl) | ((with_reducible apply BV.augI); exact rfl) | ((with_reducible apply BV.truO); exact rfl) | (with_reducible refine BV.dropE ?_)
  | ((with_reducible refine BV.isiT2 ?h1 ?h2 ?_); (case h1 => decide +kernel); (case h2 => decide +kernel)) | ((with_reducible refine And.intro (show isPlainB _ = true from ?hz) ?_); (case hz => exact rfl)) | ((with_reducible refine BV.listVals ?hu ?_); (case hu => trivial)))
local macro_rules | `(tactic| walk_at "bvgu") => `(tactic| first
  | ((with_reducible apply SL.ixT); exact rfl) | (with_reducible refine SL.ixT SL.at0U ?_) | (with_reducible refine SL.ixT SL.at1U ?_)
  | ((with_reducible apply SL.fldAt); (case hs => assumption); (case kc => assumption); (case hf => decide); (case hu => exact rfl))
  | ((with_reducible apply SL.methAt); (case hs => assumption); (case hm => decide)))
local macro_rules | `(tactic| walk_at "bv1") => `(tactic| first | (with_reducible refine BVSt.mp ?_) | walk_at "bvg0" | walk_at "bvg1" | walk_at "bvg2")
local macro_rules | `(tactic| walk_at "bv") => `(tactic| repeat first | (with_reducible refine bvRun ?_) | (with_reducible refine BVSt.mp ?_) | walk_at "bvg0" | walk_at "bvg1" | walk_at "bvg2")
local macro_rules | `(tactic| walk_at "bu") => `(tactic| repeat first | (with_reducible refine bvRun ?_) | (with_reducible refine BVSt.mp ?_) | walk_at "bvgu" | walk_at "bvg0" | walk_at "bvg1" | walk_at "bvg2")
theorem sc__law_told : FnScope ["_law_actual", "_law_lines", "_law_end", "_law_line"] ["_law_actual", "_law_lines", "_law_end"] (defScope (topS 77)) := ⟨rfl, rfl, rfl, by decide +kernel, rfl, by decide +kernel, by decide +kernel⟩
def WToldL (s : Sto) (us : List U) (R : Sto → U → Prop) : Prop := ∃ (a l : Nat) (ls : List Str) (e : List Str), us = [.tup [.rf a, .tup (e.map U.str)], .rf l, .tup (e.map U.str)] ∧ s[a]? = some (.lst (ls.map U.str)) ∧ s[l]? = some (.lst (ls.map U.str)) ∧ ls.length < 1000 ∧ e.length ≤ 3 ∧ R s (.bl true)
theorem ok_toldL (T : TxtR K mg) {f : Addr} {fd : FuncData} (F : Fun K "_law_told" "_law_told" (topS 77) f fd) : FnOk P w K mg base CX0 1 f fd ["_law_actual", "_law_lines", "_law_end"] (SpU K WToldL) := by
  refine F.ok sc__law_told (fun vs H Q E h => SL.spLen (fun s us R hW => by obtain ⟨a, l, ls, e, rfl, _⟩ := hW; rfl) h) (fun cdv A outer s H vs Q E hr h => ?_)
  have hu := hu_of hr
  refine ⟨_, (pss_cons (ps_if ((pw_or (pt_not (pt_val (pe_callB call_isi (by rfl) T.b_isinstance (by decide +kernel) (pa_cons (pv 0) (pa_cons (pe_bltn (v := .ty "tuple") (by rfl) T.b_tuple (by decide +kernel) rfl) pa_nil))))) (pw_or1 (pt_cmpR op_ne (pe_callB (r := SF.rLenQ K) call_lenQ (by rfl) T.b_len PySem.boot_len (pa_cons (pv 0) pa_nil)) pe_int (nomark _))))).pt (pss_one (ps_ret pe_bl)) pss_nil)
      (pss_cons (ps_if ((pw_or (pt_not (pt_val (pe_callB call_isi (by rfl) T.b_isinstance (by decide +kernel) (pa_cons (pe_ix (r := rIxT K) ix_tup (pv 0) pe_int (fun _ _ => rfl)) (pa_cons (pe_bltn (v := .ty "list") (by rfl) T.b_list (by decide +kernel) rfl) pa_nil))))) (pw_or1 (pt_not (pt_val (pe_callB call_isi (by rfl) T.b_isinstance (by decide +kernel) (pa_cons (pe_ix (r := rIxT K) ix_tup (pv 0) pe_int (fun _ _ => rfl)) (pa_cons (pe_bltn (v := .ty "tuple") (by rfl) T.b_tuple (by decide +kernel) rfl) pa_nil)))))))).pt (pss_one (ps_ret pe_bl)) pss_nil)
      (pss_cons (ps_for PassesOwn.never rfl (pi_list (pe_ix (r := rIxT K) ix_tup (pv 0) pe_int (fun _ _ => rfl))) (pg_name (i := 3) sc__law_told.nd rfl (Or.inl rfl)) (pss_one (ps_if (pt_not (pt_val (pe_callB call_isi (by rfl) T.b_isinstance (by decide +kernel) (pa_cons (pv 3) (pa_cons (pe_bltn (v := .ty "str") (by rfl) T.b_str (by decide +kernel) rfl) pa_nil))))) (pss_one (ps_ret pe_bl)) pss_nil)))
      (pss_one (ps_ret (pe_and (pe_cmpR (G3.op_eqW hr.units) (pe_ix (r := rIxT K) ix_tup (pv 0) pe_int (fun _ _ => rfl)) (pv 1) (nomark _)) (pe_one (pe_cmpR (G3.op_eqW hr.units) (pe_ix (r := rIxT K) ix_tup (pv 0) pe_int (fun _ _ => rfl)) (pv 2) (nomark _))))))))), ?_⟩
  refine SL.body h _ fun s us R hW hl => ?_
  obtain ⟨a, l, ls, e, rfl, ha, hls, n1, n2, hq⟩ := hW
  change suS K _ s [some (.tup [.rf a, .tup (e.map U.str)]), some (.rf l), some (.tup (e.map U.str)), none] _
  try dsimp only [cxOf, Cx.nox]
  have hT : Dr s (.tup [.lst (ls.map BV.B.str), .tup (e.map BV.B.str)]) (.tup [.rf a, .tup (e.map U.str)]) := by
    rw [Dr]
    exact ⟨_, rfl, by rw [Drs]; exact ⟨_, _, rfl, dr_lst ha, by rw [Drs]; exact ⟨_, _, rfl, dr_tup, by rw [Drs]⟩⟩⟩
  walk_at "bu"
  refine SL.isi (by decide) rfl hT ?_
  walk_at "bu"
  refine SL.isi (by decide) rfl (dr_lst ha) ?_
  walk_at "bu"
  refine SL.isi (by decide) rfl (dr_tup (zs := e)) ?_
  walk_at "bu"
  refine SL.forI (SL.wlist ?_)
  walk_at "bu"
  refine ⟨a, _, rfl, ha, ?_⟩
  refine ⟨fun _ s1 g => s1 = s ∧ ∃ y, g = [some (.tup [.rf a, .tup (e.map U.str)]), some (.rf l), some (.tup (e.map U.str)), y], ⟨rfl, _, rfl⟩, fun k s1 g ⟨e1, _⟩ => by rw [e1]; exact ha, fun k y s1 g hy ⟨e1, c, e2⟩ => ?_, fun s1 g ⟨e1, c, e2⟩ => ?_⟩
  · subst e1
    subst e2
    rw [List.getElem?_map] at hy
    cases ek : ls[k]? with
    | none => rw [ek] at hy; cases hy
    | some z =>
      rw [ek] at hy
      obtain rfl := (Option.some.inj hy).symm
      walk_at "bu"
      refine SL.isi (b := .str z) (by decide) rfl (by rw [Dr]) ?_
      walk_at "bu"
      exact ⟨rfl, _, rfl⟩
  · subst e1
    subst e2
    walk_at "bu"
    refine eqLD 2 (dr_lst ha) (dr_lst hls) (by decide) (fins_strs _) ?_
    walk_at "bu"
    refine eqTD 2 (dr_tup (zs := e)) (dr_tup (zs := e)) (by decide) (fins_strs _) ?_
    exact hq
/-
(pss_cons (ps_setLc (i := 1) (own := [("_law_k", 5)]) (tt := tYes) rfl sc__law_fold.nd rfl rfl (sw_true rfl rfl rfl (by decide +kernel)) (pi_range3 (by rfl) T.b_range (pa_cons pe_int (pa_cons (pe_callB (r := SF.rLenQ K) call_lenQ (by rfl) T.b_len PySem.boot_len (pa_cons (pv 0) pa_nil)) (pa_cons pe_int pa_nil)))) (blkOk_by (N := ["_law_rows", "_law_chunks", "_law_block", "_law_chunk", "_law_part", "_law_k"]) (sc := defScope (topS 76)) (by decide +kernel)) (fun _ _ _ _ _ => (pg_name (i := 5) sc__law_fold.nd rfl (Or.inl rfl))) (fun _ _ _ _ _ => pts_nil) (fun _ _ _ _ _ => (pe_slice (r := rSlA K) sl_tupA (pv 0) (po_some (pv 5)) (po_some (pe_op op_add (pv 5) pe_int)))))
      (pss_cons (ps_set (i := 2) sc__law_fold.nd rfl (Or.inl rfl) (pe_tup pa_nil))
      (pss_cons (ps_for PassesOwn.never rfl (pi_reversed (by rfl) T.b_reversed (pa_cons (pv 1) pa_nil)) (pg_name (i := 3) sc__law_fold.nd rfl (Or.inl rfl)) (pss_cons (ps_set (i := 4) sc__law_fold.nd rfl (Or.inl rfl) (pe_callTy call_list_of (by rfl) T.b_list (by decide +kernel) (pa_cons (pv 3) pa_nil)))
      (pss_cons (ps_if (pt_cmpR op_gt (pe_callB (r := SF.rLenQ K) call_lenQ (by rfl) T.b_len PySem.boot_len (pa_cons (pv 2) pa_nil)) pe_int (nomark _)) (pss_one (ps_expr (pe_bm PySem.F.plainAttrs_list PySem.F.slot_list_append PySem.F.type_list_append mt_append (pv 4) (pa_cons (pe_tup (pa_cons pe_str (pa_cons (pe_tup (pa_cons pe_str (pa_cons (pe_tup (pa_cons pe_str pa_nil)) (pa_cons (pe_tup (pa_cons pe_str pa_nil)) pa_nil)))) (pa_cons (pv 2) (pa_cons (pe_tup pa_nil) pa_nil))))) pa_nil)))) pss_nil)
      (pss_one (ps_set (i := 2) sc__law_fold.nd rfl (Or.inl rfl) (pe_tupleOf (by rfl) T.b_tuple (pv 4)))))))
      (pss_one (ps_ret (pv 2))))))
-/
end
end SF
set_option Elab.async false
set_option linter.all false
set_option maxRecDepth 100000
set_option maxHeartbeats 4000000
/-! k19's law over the store: the rows as a block -/
namespace SF
open PySem PySem.Spec PyProof.Rows L2 G0 SL
open C8 (Cal Mak Met pe_c pe_mk pe_mt pe_mt0 pe_gc)
def sameN : U := .tup [.str "same", .tup [.str "none"], .tup [.str "none"]]
def ifU (b : List U) : U := .tup [.str "if", sameN, .tup b, .tup []]
/-- chunks as nested blocks -/
def foldC : List (List U) → List U
  | [] => []
  | c :: cs => c ++ (if (foldC cs).isEmpty = true then [] else [ifU (foldC cs)])
def chunk (rs : List U) (i : Nat) : List U := (rs.drop (11 * i)).take 11
def chunks (rs : List U) : List (List U) := (List.range ((rs.length + 10) / 11)).map (chunk rs)
def WFold (s : Sto) (us : List U) (R : Sto → U → Prop) : Prop := ∃ (l : Nat) (rs : List U), us = [.rf l] ∧ s[l]? = some (.lst rs) ∧ rs.length ≤ 60 ∧ ∀ s', Kx (fun _ => False) s s' → R s' (.tup (foldC (chunks rs)))
/-- the first k chunks have been made -/
def ChI (s : Sto) (rs : List U) (k : Nat) (s2 : Sto) (acc : List U) : Prop := Kx (fun _ => False) s s2 ∧ s2[s.length]? = some (Ob.lst acc) ∧ ∃ ns : List Nat, acc = ns.map U.rf ∧ ns.length = k ∧ (∀ n ∈ ns, s.length < n) ∧ ∀ (i n : Nat), ns[i]? = some n → s2[n]? = some (Ob.lst (chunk rs i))
theorem rg11 : ∀ l : Nat, l ≤ 60 → RgC 0 (l : Nat) 11 ((l + 10) / 11) := fun l hl => by
  have h : ∀ l : Fin 61, Builtin.Range.small 0 (l.val : Nat) 11 = true ∧ Builtin.Range.rangeSize 0 (l.val : Nat) 11 = ((l.val + 10) / 11 : Nat) := by decide +kernel
  obtain ⟨a, b⟩ := h ⟨l, by omega⟩
  exact ⟨by decide, by decide, a, b⟩
theorem cut_chunk {rs : List U} {k : Nat} : BV.cutB rs (some ((0 : Int) + (k : Nat) * 11)) (some ((0 : Int) + (k : Nat) * 11 + 11)) = chunk rs k := by
  have e1 : HT.sIx rs.length 0 (some ((0 : Int) + (k : Nat) * 11)) = min (11 * k) rs.length := by
    rw [show (0 : Int) + (k : Nat) * 11 = ((11 * k : Nat) : Int) by omega, HT.sIx_nat]
  have e2 : HT.sIx rs.length rs.length (some ((0 : Int) + (k : Nat) * 11 + 11)) = min (11 * k + 11) rs.length := by
    rw [show (0 : Int) + (k : Nat) * 11 + 11 = ((11 * k + 11 : Nat) : Int) by omega, HT.sIx_nat]
  unfold BV.cutB chunk
  rw [e1, e2]
  rcases Nat.le_total (11 * k) rs.length with h | h
  · rw [Nat.min_eq_left h]
    rcases Nat.le_total (11 * k + 11) rs.length with h2 | h2
    · rw [Nat.min_eq_left h2, Nat.add_sub_cancel_left]
    · rw [Nat.min_eq_right h2, List.take_of_length_le (by rw [List.length_drop]; omega), List.take_of_length_le (by rw [List.length_drop]; omega)]
  · rw [Nat.min_eq_right h, List.drop_eq_nil_of_le (Nat.le_refl _), List.drop_eq_nil_of_le h, List.take_nil, List.take_nil]
section
variable {P : Program} {w : World} {K : PySem.W.Frag} {mg : Str → Option Value} {base : Heap}
set_option synthInstance.maxSize 100000
set_option synthInstance.maxHeartbeats 0
local macro_rules | `(tactic| walk_at "bvg2") => `(tactic| first
  | ((with_reducible refine And.intro (show List.length _ ≤ sizeLine from ?hz) ?_); (case hz => exact Nat.le_of_ble_eq_true rfl)) | ((with_reducible refine And.intro (show List.length _ < sizeLine from ?hz) ?_); (case hz => exact Nat.le_of_ble_eq_true rfl))
  | ((with_reducible refine RD.ifDT ?hd ?_); (case hd => first | decide +kernel | exact rfl)) | ((with_reducible refine RD.ifDF ?hd ?_); (case hd => first | decide +kernel | exact rfl))
  | ((with_reducible refine BV.catT ?hz ?_); (case hz => exact Nat.le_of_ble_eq_true rfl)) | ((with_reducible refine BV.catL ?hz ?_); (case hz => exact Nat.le_of_ble_eq_true rfl))
  | (with_reducible refine BV.ofN (BV.dNew ?_))
  | ((with_reducible apply BV.gtup); exact rfl)
  | ((with_reducible refine BV.vname ?hh ?_); (case hh => decide)) | ((with_reducible apply BV.vtup); exact rfl))
local macro_rules | `(tactic| walk_at "bvg1") => `(tactic| first
  | (with_reducible refine BV.strJoin ?_)
  | (with_reducible first | refine BV.i0 ?_ | refine BV.i0b ?_)
  | ((with_reducible apply BV.ixT); exact rfl) | (with_reducible refine BV.ixT BV.at0' ?_) | ((with_reducible apply BV.ixL); exact rfl)
  | ((with_reducible apply BV.lenO); exact rfl)
  | ((with_reducible refine BV.isi ?hh ?hp ?_); (case hh => decide +kernel); (case hp => exact rfl)) | ((with_reducible refine BV.isN ?hp ?_); (case hp => exact rfl)) | ((with_reducible refine BV.notN ?hp ?_); (case hp => exact rfl)))
local macro_rules | `(tactic| walk_at "bvg0") => `(tactic| first
  | ((with_reducible apply BV.var); exact rfl)
  | ((with_reducible apply BV.retO); exact rfl) | (with_reducible refine BV.ret ?_) | ((with_reducible apply BV.asgPop); exact rfl) | (with_reducible refine BV.asg ?_) | ((with_reducible apply BV.asgPopG); exact rfl) | (with_reducible refine BV.asgG ?_)
  | ((with_reducible apply BV.append); exact rfl) | ((with_reducible apply BV.extend); exact rfl) | ((with_reducible apply BV.augI); exact rfl) | ((with_reducible apply BV.truO); exact rfl) | (with_reducible refine BV.dropE ?_)
  | ((with_reducible refine BV.isiT2 ?h1 ?h2 ?_); (case h1 => decide +kernel); (case h2 => decide +kernel)) | ((with_reducible refine And.intro (show isPlainB _ = true from ?hz) ?_); (case hz => exact rfl)) | ((with_reducible refine BV.listVals ?hu ?_); (case hu => trivial)))
local macro_rules | `(tactic| walk_at "bvgu") => `(tactic| first
  | ((with_reducible apply SL.ixT); exact rfl) | (with_reducible refine SL.ixT SL.at0U ?_) | (with_reducible refine SL.ixT SL.at1U ?_)
  | ((with_reducible apply SL.fldAt); (case hs => assumption); (case kc => assumption); (case hf => decide); (case hu => exact rfl))
  | ((with_reducible apply SL.methAt); (case hs => assumption); (case hm => decide)))
local macro_rules | `(tactic| walk_at "bv1") => `(tactic| first | (with_reducible refine BVSt.mp ?_) | walk_at "bvg0" | walk_at "bvg1" | walk_at "bvg2")
local macro_rules | `(tactic| walk_at "bv") => `(tactic| repeat first | (with_reducible refine bvRun ?_) | (with_reducible refine BVSt.mp ?_) | walk_at "bvg0" | walk_at "bvg1" | walk_at "bvg2")
local macro_rules | `(tactic| walk_at "bu") => `(tactic| repeat first | (with_reducible refine bvRun ?_) | (with_reducible refine BVSt.mp ?_) | walk_at "bvgu" | walk_at "bvg0" | walk_at "bvg1" | walk_at "bvg2")
theorem sc__law_fold : FnScope ["_law_rows", "_law_chunks", "_law_block", "_law_chunk", "_law_part", "_law_k"] ["_law_rows"] (defScope (topS 76)) := ⟨rfl, rfl, rfl, by decide +kernel, rfl, by decide +kernel, by decide +kernel⟩
theorem ok_fold (T : TxtR K mg) {f : Addr} {fd : FuncData} (F : Fun K "_law_fold" "_law_fold" (topS 76) f fd) : FnOk P w K mg base CX0 1 f fd ["_law_rows"] (SpU K WFold) := by
  refine F.ok sc__law_fold (fun vs H Q E h => SL.spLen (fun s us R hW => by obtain ⟨l, rs, rfl, _⟩ := hW; rfl) h) (fun cdv A outer s H vs Q E hr h => ?_)
  have hu := hu_of hr
  refine ⟨_, (pss_cons (ps_setLc (i := 1) (own := [("_law_k", 5)]) (tt := tYes) rfl sc__law_fold.nd rfl rfl (sw_true rfl rfl rfl (by decide +kernel)) (pi_range3 (by rfl) T.b_range (pa_cons pe_int (pa_cons (pe_callB (r := SF.rLenQ K) call_lenQ (by rfl) T.b_len PySem.boot_len (pa_cons (pv 0) pa_nil)) (pa_cons pe_int pa_nil)))) (blkOk_by (N := ["_law_rows", "_law_chunks", "_law_block", "_law_chunk", "_law_part", "_law_k"]) (sc := defScope (topS 76)) (by decide +kernel)) (fun _ _ _ _ _ => (pg_name (i := 5) sc__law_fold.nd rfl (Or.inl rfl))) (fun _ _ _ _ _ => pts_nil) (fun _ _ _ _ _ => (pe_slice (r := rSlL K) sl_list (pv 0) (po_some (pv 5)) (po_some (pe_op op_add (pv 5) pe_int)))))
      (pss_cons (ps_set (i := 2) sc__law_fold.nd rfl (Or.inl rfl) (pe_tup pa_nil))
      (pss_cons (ps_for PassesOwn.never rfl (pi_reversed (by rfl) T.b_reversed (pa_cons (pv 1) pa_nil)) (pg_name (i := 3) sc__law_fold.nd rfl (Or.inl rfl)) (pss_cons (ps_set (i := 4) sc__law_fold.nd rfl (Or.inl rfl) (pe_callTy call_list_of (by rfl) T.b_list (by decide +kernel) (pa_cons (pv 3) pa_nil)))
      (pss_cons (ps_if (pt_cmpR op_gt (pe_callB (r := SF.rLenQ K) call_lenQ (by rfl) T.b_len PySem.boot_len (pa_cons (pv 2) pa_nil)) pe_int (nomark _)) (pss_one (ps_expr (pe_bm PySem.F.plainAttrs_list PySem.F.slot_list_append PySem.F.type_list_append mt_append (pv 4) (pa_cons (pe_tup (pa_cons pe_str (pa_cons (pe_tup (pa_cons pe_str (pa_cons (pe_tup (pa_cons pe_str pa_nil)) (pa_cons (pe_tup (pa_cons pe_str pa_nil)) pa_nil)))) (pa_cons (pv 2) (pa_cons (pe_tup pa_nil) pa_nil))))) pa_nil)))) pss_nil)
      (pss_one (ps_set (i := 2) sc__law_fold.nd rfl (Or.inl rfl) (pe_tupleOf (by rfl) T.b_tuple (pv 4)))))))
      (pss_one (ps_ret (pv 2)))))), ?_⟩
  refine SL.body h _ fun s us R hW hl => ?_
  obtain ⟨l, rs, rfl, hs, hz, hq⟩ := hW
  change suS K _ s [some (.rf l), none, none, none, none, none] _
  try dsimp only [cxOf, Cx.nox]
  walk_at "bu"
  refine SL.lc (SL.wrng3 ?_)
  walk_at "bu"
  refine SL.lenL hs ?_
  walk_at "bu"
  refine ⟨0, _, 11, _, rfl, rg11 _ hz, ?_⟩
  refine ⟨ChI s rs, ⟨Kx.app, newAt, [], rfl, rfl, fun n h => (nomatch h), fun i n h => (by cases h)⟩, fun k s2 acc hI => ⟨trivial, hI.2.1⟩, fun k y s2 acc hy hI => ?_, fun s2 acc hI => ?_⟩
  · obtain ⟨k2, hl2, ns, rfl, hnl, hng, hn⟩ := hI
    have hk : k < (rs.length + 10) / 11 := by
      have := (List.getElem?_eq_some_iff.mp hy).1
      rwa [rngC_len] at this
    rw [rngC_at hk] at hy
    obtain rfl := (Option.some.inj hy).symm
    have hs2 := k2.kp l _ id hs
    dsimp only [wipeU, List.map, List.set]
    refine SL.vname (by decide) ?_
    walk_at "bu"
    refine SL.slL hs2 ?_
    rw [cut_chunk]
    have hls := (List.getElem?_eq_some_iff.mp hl2).1
    refine ⟨(Kx.app (X := fun _ => False)).kp _ _ id hl2, by rw [List.length_map, hnl]; exact Nat.lt_of_lt_of_le (show k < 100 by omega) (by decide), ⟨?_, fun i b _ h => ?_⟩, List.getElem?_set_self (by rw [List.length_append]; omega), ns ++ [s2.length], by rw [List.map_append]; rfl, by rw [List.length_append, hnl]; rfl, fun n h => ?_, fun i n h => ?_⟩
    · rw [List.length_set, List.length_append]
      have := k2.len
      omega
    · rw [List.getElem?_set_ne (by have := (List.getElem?_eq_some_iff.mp h).1; omega)]
      exact (Kx.app (X := fun _ => False)).kp _ _ id (k2.kp i b id h)
    · rcases List.mem_append.mp h with h | h
      · exact hng n h
      · rw [List.mem_singleton.mp h]
        exact hls
    · rcases Nat.lt_or_ge i ns.length with hi | hi
      · rw [List.getElem?_append_left hi] at h
        rw [List.getElem?_set_ne (by have := hng n (List.mem_of_getElem? h); omega)]
        exact (Kx.app (X := fun _ => False)).kp _ _ id (hn i n h)
      · have e : i = k := by have := (List.getElem?_eq_some_iff.mp h).1; rw [List.length_append, List.length_singleton] at this; omega
        subst e
        rw [← hnl, List.getElem?_append_right (Nat.le_refl _), Nat.sub_self] at h
        obtain rfl := Option.some.inj h
        rw [List.getElem?_set_ne (by omega)]
        exact newAt
  · obtain ⟨k2, hl2, ns, rfl, hnl, hng, hn⟩ := hI
    rw [rngC_len] at hnl
    walk_at "bu"
    refine SL.forI (SL.wrev ?_)
    walk_at "bu"
    refine ⟨_, _, rfl, hl2, ?_⟩
    have hcl : (chunks rs).length = ns.length := by unfold chunks; rw [List.length_map, List.length_range, hnl]
    refine ⟨fun j s3 g => Kx (fun _ => False) s2 s3 ∧ ∃ c p, g = [some (.rf l), some (.rf s.length), some (.tup (foldC ((chunks rs).drop (ns.length - j)))), c, p, none], ⟨Kx.refl, none, none, by rw [Nat.sub_zero, ← hcl, List.drop_length]; rfl⟩, fun j s3 g hJ => hJ.1.kp _ _ id hl2, fun j y s3 g hy hJ => ?_, fun s3 g hJ => ?_⟩
    · obtain ⟨k3, c, p, rfl⟩ := hJ
      have hj : j < ns.length := by have := (List.getElem?_eq_some_iff.mp hy).1; rwa [List.length_reverse, List.length_map] at this
      rw [List.getElem?_reverse (by rw [List.length_map]; exact hj), List.getElem?_map, List.length_map] at hy
      have hi : ns.length - 1 - j < ns.length := by omega
      rw [List.getElem?_eq_getElem hi] at hy
      obtain rfl := (Option.some.inj hy).symm
      have hc3 := k3.kp _ _ id (hn _ _ (List.getElem?_eq_getElem hi))
      have ec : (chunks rs)[ns.length - 1 - j]'(by rw [hcl]; exact hi) = chunk rs (ns.length - 1 - j) := by unfold chunks; simp
      have ed : (chunks rs).drop (ns.length - (j + 1)) = chunk rs (ns.length - 1 - j) :: (chunks rs).drop (ns.length - j) := by
        rw [← ec, show ns.length - (j + 1) = ns.length - 1 - j by omega, List.drop_eq_getElem_cons (by rw [hcl]; exact hi), show ns.length - 1 - j + 1 = ns.length - j by omega]
      have ef : foldC ((chunks rs).drop (ns.length - (j + 1))) = chunk rs (ns.length - 1 - j) ++ (if (foldC ((chunks rs).drop (ns.length - j))).isEmpty = true then [] else [ifU (foldC ((chunks rs).drop (ns.length - j)))]) := by rw [ed, foldC]
      have cz : (chunk rs (ns.length - 1 - j)).length ≤ 11 := by unfold chunk; rw [List.length_take]; omega
      generalize foldC ((chunks rs).drop (ns.length - j)) = fb at ef
      generalize chunk rs (ns.length - 1 - j) = ch at ef hc3 cz
      walk_at "bu"
      refine SL.listL hc3 ?_
      walk_at "bu"
      refine ite2 (fun q1 => ?_) (fun q1 => ?_)
      · have e1 : fb.isEmpty = false := by
          have := of_decide_eq_true q1
          cases fb with
          | nil => simp at this
          | cons _ _ => rfl
        rw [e1, if_neg Bool.false_ne_true] at ef
        walk_at "bu"
        refine ⟨Nat.lt_of_le_of_lt cz (by decide), ?_⟩
        rw [List.set_append_right _ _ (Nat.le_refl _), Nat.sub_self]
        dsimp only [List.set]
        walk_at "bu"
        exact ⟨k3.trans Kx.app, some (.rf ns[ns.length - 1 - j]), some (.rf s3.length), by rw [ef]; rfl⟩
      · have e1 : fb.isEmpty = true := by
          cases fb with
          | nil => rfl
          | cons _ _ => exact absurd (decide_eq_true (by simp)) q1
        rw [e1, if_pos rfl, List.append_nil] at ef
        walk_at "bu"
        exact ⟨k3.trans Kx.app, some (.rf ns[ns.length - 1 - j]), some (.rf s3.length), by rw [ef]; rfl⟩
    · obtain ⟨k3, c, p, rfl⟩ := hJ
      rw [List.length_reverse, List.length_map, Nat.sub_self, List.drop_zero]
      walk_at "bu"
      exact hq _ (k2.trans k3)
end
end SF
set_option Elab.async false
set_option linter.all false
set_option maxRecDepth 100000
set_option maxHeartbeats 4000000
/-! k19: what the machine does with a row -/
namespace SF
open PySem PySem.Spec PyProof.Rows L2 G0 SL
theorem has_of {q : Key} : ∀ {ks : List Key} {ds : List U}, ks.length = ds.length → getU ks ds q = none → BV.hasB ks q = false
  | [], ds, _, _ => rfl
  | a :: ks, [], hl, _ => (nomatch hl)
  | a :: ks, d :: ds, hl, h => by
    unfold getU at h
    rw [List.zip_cons_cons, List.find?_cons] at h
    by_cases e : a = q
    · rw [decide_eq_true e] at h
      cases h
    · rw [decide_eq_false e] at h
      have ih := has_of (q := q) (ks := ks) (ds := ds) (by simpa using hl) h
      unfold BV.hasB at ih ⊢
      rw [List.any_cons, ih]
      simpa using e
theorem get_new {q q' : Key} {d : U} {ks : List Key} {ds : List U} (hl : ks.length = ds.length) (h : getU ks ds q = none) : getU (putU ks ds q d).1 (putU ks ds q d).2 q' = if q = q' then some d else getU ks ds q' := by
  unfold putU
  rw [has_of hl h, if_neg Bool.false_ne_true]
  dsimp only
  unfold getU at h ⊢
  rw [List.zip_append hl, List.find?_append]
  by_cases e : q = q'
  · subst e
    rw [Option.map_eq_none_iff] at h
    rw [h, if_pos rfl]
    simp
  · rw [if_neg e]
    cases hf : List.find? (fun z => decide (z.1 = q')) (ks.zip ds) with
    | some z => rfl
    | none => simp [e]
theorem hget_cons {q : Str × Str} {h : Hd} {n : Str} : hget (q :: h) n = if q.1 = n then some q.2 else hget h n := by
  unfold hget
  rw [List.find?_cons]
  by_cases e : q.1 = n
  · rw [decide_eq_true e, if_pos e]; rfl
  · rw [decide_eq_false e, if_neg e]
theorem hget_oth {n z n' : Str} (hn : n ≠ n') : ∀ {h : Hd}, hget (h.map fun q => if q.1 = n then (q.1, z) else q) n' = hget h n'
  | [] => rfl
  | q :: h => by
    rw [List.map_cons, hget_cons, hget_cons, hget_oth hn]
    by_cases e : q.1 = n
    · rw [if_pos e, if_neg (fun x => hn (e.symm.trans x)), if_neg (fun x => hn (e.symm.trans x))]
    · rw [if_neg e]
theorem hget_own {n z : Str} : ∀ {h : Hd}, hhas h n = true → hget (h.map fun q => if q.1 = n then (q.1, z) else q) n = some z
  | [], hh => (nomatch hh)
  | q :: h, hh => by
    rw [List.map_cons, hget_cons]
    by_cases e : q.1 = n
    · rw [if_pos e, if_pos e]
    · rw [if_neg e, if_neg e]
      unfold hhas at hh
      rw [List.any_cons, decide_eq_false e, Bool.false_or] at hh
      exact hget_own hh
theorem hget_no {n : Str} : ∀ {h : Hd}, hhas h n = false → hget h n = none
  | [], _ => rfl
  | q :: h, hh => by
    unfold hhas at hh
    rw [List.any_cons, Bool.or_eq_false_iff] at hh
    rw [hget_cons, if_neg (of_decide_eq_false hh.1)]
    exact hget_no hh.2
theorem hget_app {n z n' : Str} : ∀ {h : Hd}, hget (h ++ [(n, z)]) n' = match hget h n' with
    | some y => some y
    | none => if n = n' then some z else none
  | [] => by rw [List.nil_append, hget_cons]; rfl
  | q :: h => by
    rw [List.cons_append, hget_cons, hget_cons, hget_app]
    by_cases e : q.1 = n'
    · rw [if_pos e, if_pos e]
    · rw [if_neg e, if_neg e]
theorem hget_hput {h : Hd} {n z n' : Str} : hget (hput h n z) n' = if n = n' then some z else hget h n' := by
  unfold hput
  cases hh : hhas h n with
  | true =>
    rw [if_pos rfl]
    by_cases e : n = n'
    · subst e; rw [if_pos rfl, hget_own hh]
    · rw [if_neg e, hget_oth e]
  | false =>
    rw [if_neg Bool.false_ne_true, hget_app]
    by_cases e : n = n'
    · subst e; rw [hget_no hh]
    · rw [if_neg e, if_neg e]
      cases hget h n' <;> rfl
/-- the names' values, as the machine holds them at p -/
structure NmAt (s : Sto) (p : Nat) (h : Hd) (b : Nat) : Prop where
  ex : ∃ ks pls, s[p]? = some (Ob.dct ks pls) ∧ ks.length = pls.length ∧ ks.length ≤ b ∧ (∀ n, hget h n = none → getU ks pls (.inr n) = none) ∧
    (∀ n z, hget h n = some z → ∃ l xs t v, getU ks pls (.inr n) = some (.rf l) ∧ s[l]? = some (Ob.lst (xs ++ [.tup [.int t, v]])) ∧ xs.length ≤ b ∧ toldU v = some z) ∧
    ∀ n n' l, getU ks pls (.inr n) = some (.rf l) → getU ks pls (.inr n') = some (.rf l) → n = n'
/-- no list of a name's values -/
def NotPast (b : Ob) : Prop := ∀ xs (t : Int) v, b ≠ Ob.lst (xs ++ [.tup [.int t, v]])
theorem give_step {k : Ks} {s : Sto} {sr p : Nat} {h : Hd} {b : Nat} {n z : Str} {v : U} {st : Int} {ks : List Key} {pls : List U} (hs : SurAt k s sr .non p ks pls) (hn : NmAt s p h b) (hv : toldU v = some z) (hb : b ≤ 1000) :
    ∃ s', GiveR k s sr n v st s' ∧ NmAt s' p (hput h n z) (b + 1) ∧ s.length ≤ s'.length ∧ ∀ i o, i ≠ p → NotPast o → s[i]? = some o → s'[i]? = some o := by
  obtain ⟨ks', pls', h1, h2, h3, h4, h5, h6⟩ := hn.ex
  obtain ⟨e1, e2⟩ := Ob.dct.inj (Option.some.inj (h1.symm.trans hs.2))
  obtain ⟨rfl, rfl⟩ : ks = ks' ∧ pls = pls' := ⟨e1.symm, e2.symm⟩
  have pl := (List.getElem?_eq_some_iff.mp h1).1
  have bz : b < sizeLine := Nat.lt_of_le_of_lt hb (by decide)
  cases e : hget h n with
  | none =>
    have g0 := h4 n e
    have sl : s.length < (s ++ [Ob.lst []]).length := by simp
    refine ⟨_, .new hs g0 (Nat.lt_of_le_of_lt h3 bz), ⟨(putU ks pls (.inr n) (.rf s.length)).1, (putU ks pls (.inr n) (.rf s.length)).2, ?_, ?_, ?_, ?_, ?_, ?_⟩, ?_, ?_⟩
    · rw [List.getElem?_set_ne (by omega), List.getElem?_set_self (by omega)]
    · unfold putU
      rw [has_of h2 g0, if_neg Bool.false_ne_true, List.length_append, List.length_append, h2]
      rfl
    · unfold putU
      rw [has_of h2 g0, if_neg Bool.false_ne_true, List.length_append]
      simp
      omega
    · intro n' e'
      rw [hget_hput] at e'
      rw [get_new h2 g0]
      by_cases q : n = n'
      · rw [if_pos q] at e'; cases e'
      · rw [if_neg q] at e'
        rw [if_neg (fun x => q (Sum.inr.inj x))]
        exact h4 n' e'
    · intro n' z' e'
      rw [hget_hput] at e'
      rw [get_new h2 g0]
      by_cases q : n = n'
      · subst q
        rw [if_pos rfl] at e' ⊢
        obtain rfl := Option.some.inj e'
        exact ⟨s.length, [], st, v, rfl, by rw [List.getElem?_set_self (by rw [List.length_set]; exact sl)]; rfl, Nat.zero_le _, hv⟩
      · rw [if_neg q] at e'
        rw [if_neg (fun x => q (Sum.inr.inj x))]
        obtain ⟨l, xs, t, w, g1, g2, g3, g4⟩ := h5 n' z' e'
        have ll := (List.getElem?_eq_some_iff.mp g2).1
        exact ⟨l, xs, t, w, g1, by rw [List.getElem?_set_ne (by omega), List.getElem?_set_ne (fun x => by rw [x, g2] at h1; cases h1)]; exact (Kx.app (X := fun _ => False)).kp _ _ id g2, by omega, g4⟩
    · intro n1 n2 l e1 e2
      rw [get_new h2 g0] at e1 e2
      have old : ∀ n', getU ks pls (.inr n') = some (.rf s.length) → False := fun n' z => by
        cases q : hget h n' with
        | none => rw [h4 n' q] at z; cases z
        | some y =>
          obtain ⟨l2, xs, t, w, g1, g2, _⟩ := h5 n' y q
          rw [g1] at z
          have z := SL.U.rf.inj (Option.some.inj z)
          have := (List.getElem?_eq_some_iff.mp g2).1
          omega
      by_cases q1 : n = n1
      · by_cases q2 : n = n2
        · exact q1.symm.trans q2
        · rw [if_pos (by rw [q1])] at e1
          rw [if_neg (fun x => q2 (Sum.inr.inj x)), ← e1] at e2
          exact (old n2 e2).elim
      · by_cases q2 : n = n2
        · rw [if_pos (by rw [q2])] at e2
          rw [if_neg (fun x => q1 (Sum.inr.inj x)), ← e2] at e1
          exact (old n1 e1).elim
        · rw [if_neg (fun x => q1 (Sum.inr.inj x))] at e1
          rw [if_neg (fun x => q2 (Sum.inr.inj x))] at e2
          exact h6 n1 n2 l e1 e2
    · simp
    · intro i o hi ho h0
      have := (List.getElem?_eq_some_iff.mp h0).1
      rw [List.getElem?_set_ne (by omega), List.getElem?_set_ne (fun x => hi x.symm)]
      exact (Kx.app (X := fun _ => False)).kp i o id h0
  | some y =>
    obtain ⟨l, xs, t, w, g1, g2, g3, g4⟩ := h5 n y e
    have ll := (List.getElem?_eq_some_iff.mp g2).1
    refine ⟨_, .old hs g1 g2 (by rw [List.length_append]; exact Nat.lt_of_le_of_lt (show xs.length + 1 ≤ 1001 by omega) (by decide)) (Nat.lt_of_le_of_lt h3 bz), ⟨ks, pls, ?_, h2, by omega, ?_, ?_, h6⟩, ?_, ?_⟩
    · rw [List.getElem?_set_ne (fun x => by rw [← x, g2] at h1; cases h1)]
      exact (Kx.app (X := fun _ => False)).kp _ _ id h1
    · intro n' e'
      rw [hget_hput] at e'
      by_cases q : n = n'
      · rw [if_pos q] at e'; cases e'
      · rw [if_neg q] at e'
        exact h4 n' e'
    · intro n' z' e'
      rw [hget_hput] at e'
      by_cases q : n = n'
      · subst q
        rw [if_pos rfl] at e'
        obtain rfl := Option.some.inj e'
        exact ⟨l, xs ++ [.tup [.int t, w]], st, v, g1, List.getElem?_set_self (by rw [List.length_append]; omega), by rw [List.length_append]; simp; omega, hv⟩
      · rw [if_neg q] at e'
        obtain ⟨l2, xs2, t2, w2, k1, k2, k3, k4⟩ := h5 n' z' e'
        refine ⟨l2, xs2, t2, w2, k1, ?_, by omega, k4⟩
        rw [List.getElem?_set_ne (fun x => q (h6 n n' l g1 (by rw [x]; exact k1)))]
        exact (Kx.app (X := fun _ => False)).kp _ _ id k2
    · simp
    · intro i o hi ho h0
      rw [List.getElem?_set_ne (fun z => ho xs t w (by rw [← z, g2] at h0; exact (Option.some.inj h0).symm))]
      exact (Kx.app (X := fun _ => False)).kp i o id h0
end SF
set_option Elab.async false
set_option linter.all false
set_option maxRecDepth 100000
set_option maxHeartbeats 4000000
/-! k19: what the machine does with a row: values, statements -/
namespace SF
open PySem PySem.Spec PyProof.Rows L2 G0 SL
/-- where the machine stands: its call, its surroundings, the names' values, what it has printed -/
structure MI (k : Ks) (s : Sto) (x : Nat) (m : Mv) (c sr p : Nat) (h : Hd) (ls : List Str) (b : Nat) : Prop where
  mac : MacAt k s x m
  cal : CalAt k s c sr .non .non .non 0
  sur : s[sr]? = some (Ob.ins k.CS surFs [.non, .rf p])
  nm : NmAt s p h b
  prn : s[m.pr]? = some (Ob.lst (ls.map U.str))
theorem NmAt.app {s l : Sto} {p : Nat} {h : Hd} {b : Nat} (a : NmAt s p h b) : NmAt (s ++ l) p h b := by
  obtain ⟨ks, pls, h1, h2, h3, h4, h5, h6⟩ := a.ex
  refine ⟨ks, pls, (Kx.app (X := fun _ => False)).kp _ _ id h1, h2, h3, h4, fun n z e => ?_, h6⟩
  obtain ⟨l, xs, t, v, g1, g2, g3⟩ := h5 n z e
  exact ⟨l, xs, t, v, g1, (Kx.app (X := fun _ => False)).kp _ _ id g2, g3⟩
theorem MI.app {k : Ks} {s l : Sto} {x : Nat} {m : Mv} {c sr p : Nat} {h : Hd} {ls : List Str} {b : Nat} (a : MI k s x m c sr p h ls b) : MI k (s ++ l) x m c sr p h ls b :=
  ⟨(Kx.app (X := fun _ => False)).kp _ _ id a.mac, (Kx.app (X := fun _ => False)).kp _ _ id a.cal, (Kx.app (X := fun _ => False)).kp _ _ id a.sur, a.nm.app, (Kx.app (X := fun _ => False)).kp _ _ id a.prn⟩
theorem name_some {k : Ks} {s : Sto} {x : Nat} {m : Mv} {c sr p : Nat} {h : Hd} {ls : List Str} {b : Nat} {n z : Str} (a : MI k s x m c sr p h ls b) (e : hget h n = some z) : ∃ v, toldU v = some z ∧ NameV k s c n (some v) := by
  obtain ⟨ks, pls, h1, h2, h3, h4, h5, h6⟩ := a.nm.ex
  obtain ⟨l, xs, t, v, g1, g2, g3, g4⟩ := h5 n z e
  exact ⟨v, g4, sr, .non, .non, .non, 0, a.cal, 0, sr, .non, p, ks, pls, l, .here ⟨a.sur, h1⟩ g1, ⟨a.sur, h1⟩, g1, xs, .int t, g2⟩
theorem name_none {k : Ks} {s : Sto} {x : Nat} {m : Mv} {c sr p : Nat} {h : Hd} {ls : List Str} {b : Nat} {n : Str} (a : MI k s x m c sr p h ls b) (e : hget h n = none) : NameV k s c n none := by
  obtain ⟨ks, pls, h1, h2, h3, h4, h5, h6⟩ := a.nm.ex
  exact ⟨sr, .non, .non, .non, 0, a.cal, 1, .out ⟨a.sur, h1⟩ (h4 n e) .no⟩
theorem set_new {s : Sto} {b c : Ob} : (s ++ [b]).set s.length c = s ++ [c] := by rw [List.set_append_right _ _ (Nat.le_refl _), Nat.sub_self]; rfl
theorem val_ok {k : Ks} {s : Sto} {x : Nat} {m : Mv} {c sr p : Nat} {h : Hd} {ls : List Str} {b : Nat} {e : Sm} {z : Str} (a : MI k s x m c sr p h ls b) (hz : txtOf h e = some z) : ∃ v, toldU v = some z ∧ VsR k c s.length (s ++ [Ob.lst []]) [e.u] [] true [v] (s ++ [Ob.lst [v]]) := by
  have mk : ∀ v, VsR k c s.length ((s ++ [Ob.lst []]).set s.length (Ob.lst ([] ++ [v]))) [] ([] ++ [v]) true [v] (s ++ [Ob.lst [v]]) := fun v => by
    rw [set_new]
    exact .nil
  cases e with
  | non => exact ⟨.non, hz, .oth (by decide) .none (mk _)⟩
  | word y => exact ⟨.str y, hz, .oth (by decide) .word (mk _)⟩
  | name n =>
    obtain ⟨v, q1, q2⟩ := name_some (a.app (l := [Ob.lst []])) hz
    exact ⟨v, q1, .name q2 (mk v)⟩
theorem val_no {k : Ks} {s : Sto} {x : Nat} {m : Mv} {c sr p : Nat} {h : Hd} {ls : List Str} {b : Nat} {e : Sm} (a : MI k s x m c sr p h ls b) (hz : txtOf h e = none) : VsR k c s.length (s ++ [Ob.lst []]) [e.u] [] false [] (s ++ [Ob.lst []]) := by
  cases e with
  | non => cases hz
  | word y => cases hz
  | name n => exact .no (name_none (a.app (l := [Ob.lst []])) hz)
theorem Sm.form (e : Sm) : ∃ hh t, e.u = .tup (.str hh :: t) ∧ (hh : Str) ∉ callZ := by
  cases e with
  | non => exact ⟨"none", [], rfl, by decide⟩
  | word y => exact ⟨"word", [.str y], rfl, by decide⟩
  | name n => exact ⟨"name", [.str n], rfl, by decide⟩
/-- a row whose right side has a value -/
theorem beg_ok {k : Ks} {s : Sto} {x : Nat} {m : Mv} {c : Nat} {v : U} {r : Rw} {s' : Sto} (hv : VsR k c s.length (s ++ [Ob.lst []]) [r.e.u] [] true [v] (s ++ [Ob.lst [v]])) (hm : MacAt k (s ++ [Ob.lst [v]]) x m) (hf : FinR k (s ++ [Ob.lst [v]]) x c v r.u s') : BegR k s x c r.u s' := by
  obtain ⟨hh, t, e1, e2⟩ := r.e.form
  rw [e1] at hv
  cases r with
  | lt n e =>
    dsimp only [Rw.u, Rw.e] at hf e1 ⊢
    rw [e1] at hf ⊢
    exact .ok (z := "let") (xs := [.str n]) (by decide) e2 hv newAt hm hf
  | se n e =>
    dsimp only [Rw.u, Rw.e] at hf e1 ⊢
    rw [e1] at hf ⊢
    exact .ok (z := "set") (xs := [.str n]) (by decide) e2 hv newAt hm hf
  | dd e =>
    dsimp only [Rw.u, Rw.e] at hf e1 ⊢
    rw [e1] at hf ⊢
    exact .ok (z := "do") (xs := []) (by decide) e2 hv newAt hm hf
  | pr e =>
    dsimp only [Rw.u, Rw.e] at hf e1 ⊢
    rw [e1] at hf ⊢
    exact .ok (z := "print") (xs := []) (by decide) e2 hv newAt hm hf
theorem beg_no {k : Ks} {s : Sto} {x : Nat} {m : Mv} {c : Nat} {r : Rw} (hv : VsR k c s.length (s ++ [Ob.lst []]) [r.e.u] [] false [] (s ++ [Ob.lst []])) (hm : MacAt k (s ++ [Ob.lst []]) x m) : BegR k s x c r.u (goingS k (s ++ [Ob.lst []]) x m nonameU) := by
  obtain ⟨hh, t, e1, e2⟩ := r.e.form
  rw [e1] at hv
  cases r with
  | lt n e =>
    dsimp only [Rw.u, Rw.e] at e1 ⊢
    rw [e1]
    exact .no (z := "let") (xs := [.str n]) (by decide) e2 hv hm
  | se n e =>
    dsimp only [Rw.u, Rw.e] at e1 ⊢
    rw [e1]
    exact .no (z := "set") (xs := [.str n]) (by decide) e2 hv hm
  | dd e =>
    dsimp only [Rw.u, Rw.e] at e1 ⊢
    rw [e1]
    exact .no (z := "do") (xs := []) (by decide) e2 hv hm
  | pr e =>
    dsimp only [Rw.u, Rw.e] at e1 ⊢
    rw [e1]
    exact .no (z := "print") (xs := []) (by decide) e2 hv hm
end SF
set_option Elab.async false
set_option linter.all false
set_option maxRecDepth 100000
set_option maxHeartbeats 4000000
/-! k19: what the machine does with a row: all of it -/
namespace SF
open PySem PySem.Spec PyProof.Rows L2 G0 SL
theorem np_ins {C : Addr} {fs : List Str} {ds : List U} : NotPast (Ob.ins C fs ds) := fun _ _ _ e => by cases e
theorem np_strs {ls : List Str} : NotPast (Ob.lst (ls.map U.str)) := fun xs t v e => by
  have e := Ob.lst.inj e
  have : SL.U.tup [.int t, v] ∈ ls.map U.str := by rw [e]; simp
  obtain ⟨z, _, hz⟩ := List.mem_map.mp this
  cases hz
theorem np_rfs {xs : List Nat} : NotPast (Ob.lst (xs.map U.rf)) := fun ys t v e => by
  have e := Ob.lst.inj e
  have : SL.U.tup [.int t, v] ∈ xs.map U.rf := by rw [e]; simp
  obtain ⟨z, _, hz⟩ := List.mem_map.mp this
  cases hz
/-- what no row touches stays: i is not the names' dict, nor the list of lines; no list of values -/
def Frm (s s' : Sto) (p q : Nat) : Prop := s.length ≤ s'.length ∧ ∀ i o, i ≠ p → i ≠ q → NotPast o → s[i]? = some o → s'[i]? = some o
theorem Frm.app {s l : Sto} {p q : Nat} : Frm s (s ++ l) p q := ⟨by simp, fun i o _ _ _ h => (Kx.app (X := fun _ => False)).kp i o id h⟩
theorem Frm.trans {s s1 s2 : Sto} {p q : Nat} (a : Frm s s1 p q) (b : Frm s1 s2 p q) : Frm s s2 p q := ⟨Nat.le_trans a.1 b.1, fun i o h1 h2 h3 h => b.2 i o h1 h2 h3 (a.2 i o h1 h2 h3 h)⟩
variable {k : Ks} {s : Sto} {x : Nat} {m : Mv} {c sr p : Nat} {h : Hd} {ls : List Str} {b : Nat}
theorem MI.dct (a : MI k s x m c sr p h ls b) : ∃ ks pls, s[p]? = some (Ob.dct ks pls) := by
  obtain ⟨ks, pls, h1, _⟩ := a.nm.ex
  exact ⟨ks, pls, h1⟩
theorem MI.np (a : MI k s x m c sr p h ls b) {i : Nat} {C : Addr} {fs : List Str} {ds : List U} (hi : s[i]? = some (Ob.ins C fs ds)) : i ≠ p := fun e => by
  obtain ⟨ks, pls, h1⟩ := a.dct
  rw [e, h1] at hi
  cases hi
theorem MI.npl (a : MI k s x m c sr p h ls b) {i : Nat} {ds : List U} (hi : s[i]? = some (Ob.lst ds)) : i ≠ p := fun e => by
  obtain ⟨ks, pls, h1⟩ := a.dct
  rw [e, h1] at hi
  cases hi
theorem give_mi {n z : Str} {v : U} {st : Int} (a : MI k s x m c sr p h ls b) (hv : toldU v = some z) (hb : b ≤ 1000) : ∃ s', GiveR k s sr n v st s' ∧ MI k s' x m c sr p (hput h n z) ls (b + 1) ∧ Frm s s' p m.pr := by
  obtain ⟨ks, pls, h1⟩ := a.dct
  obtain ⟨s', g, n1, l1, f1⟩ := give_step (st := st) (n := n) ⟨a.sur, h1⟩ a.nm hv hb
  exact ⟨s', g, ⟨f1 _ _ (a.np a.mac) np_ins a.mac, f1 _ _ (a.np a.cal) np_ins a.cal, f1 _ _ (a.np a.sur) np_ins a.sur, n1, f1 _ _ (a.npl a.prn) np_strs a.prn⟩, l1, fun i o h2 _ h3 h4 => f1 i o h2 h3 h4⟩
theorem NmAt.mono {b' : Nat} (a : NmAt s p h b) (hb : b ≤ b') : NmAt s p h b' := by
  obtain ⟨ks, pls, h1, h2, h3, h4, h5, h6⟩ := a.ex
  refine ⟨ks, pls, h1, h2, Nat.le_trans h3 hb, h4, fun n z e => ?_, h6⟩
  obtain ⟨l, xs, t, v, g1, g2, g3, g4⟩ := h5 n z e
  exact ⟨l, xs, t, v, g1, g2, Nat.le_trans g3 hb, g4⟩
theorem MI.mono {b' : Nat} (a : MI k s x m c sr p h ls b) (hb : b ≤ b') : MI k s x m c sr p h ls b' := ⟨a.mac, a.cal, a.sur, a.nm.mono hb, a.prn⟩
/-- lines may be added -/
theorem print_mi {z : Str} (a : MI k s x m c sr p h ls b) : MI k (s.set m.pr (Ob.lst (ls.map U.str ++ [.str z]))) x m c sr p h (ls ++ [z]) b := by
  have hp := (List.getElem?_eq_some_iff.mp a.prn).1
  have keep : ∀ {i : Nat} {o : Ob}, s[i]? = some o → (∀ ds : List Str, o ≠ Ob.lst (ds.map U.str)) → (s.set m.pr (Ob.lst (ls.map U.str ++ [.str z])))[i]? = some o := fun {i o} hi ho => by
    rw [List.getElem?_set_ne (fun e => ho ls (by rw [← e, a.prn] at hi; exact (Option.some.inj hi).symm))]
    exact hi
  obtain ⟨ks, pls, h1, h2, h3, h4, h5, h6⟩ := a.nm.ex
  refine ⟨keep a.mac (fun _ e => by cases e), keep a.cal (fun _ e => by cases e), keep a.sur (fun _ e => by cases e), ⟨ks, pls, keep h1 (fun _ e => by cases e), h2, h3, h4, fun n z e => ?_, h6⟩, ?_⟩
  · obtain ⟨l, xs, t, v, g1, g2, g3, g4⟩ := h5 n z e
    exact ⟨l, xs, t, v, g1, keep g2 (fun ds e => np_strs (ls := ds) xs t v e.symm), g3, g4⟩
  · rw [List.getElem?_set_self hp, List.map_append]
    rfl
/-- a row that does what it says -/
theorem row_ok {r : Rw} {h' : Hd} {ls' : List Str} (a : MI k s x m c sr p h ls b) (hb : b ≤ 1000) (hl : ls.length ≤ 1000) (hd : doR h ls r = some (h', ls')) : ∃ s', BegR k s x c r.u s' ∧ MI k s' x m c sr p h' ls' (b + 1) ∧ Frm s s' p m.pr := by
  cases ez : txtOf h r.e with
  | none => cases r <;> (dsimp only [Rw.e] at ez; dsimp only [doR] at hd; rw [ez] at hd; cases hd)
  | some z =>
    obtain ⟨v, q1, q2⟩ := val_ok a ez
    have a1 : MI k (s ++ [Ob.lst [v]]) x m c sr p h ls b := a.app
    cases r with
    | lt n e =>
      dsimp only [Rw.e] at ez
      dsimp only [doR] at hd
      rw [ez] at hd
      cases hd
      obtain ⟨s', g, a2, f⟩ := give_mi (n := n) (st := m.steps) a1 q1 hb
      exact ⟨s', beg_ok q2 a1.mac (.lt a1.mac a1.cal g), a2, Frm.app.trans f⟩
    | se n e =>
      dsimp only [Rw.e] at ez
      dsimp only [doR] at hd
      rw [ez] at hd
      dsimp only at hd
      cases eh : hget h n with
      | none => rw [eh] at hd; cases hd
      | some y =>
        rw [eh, if_pos (show (some y).isSome = true from rfl)] at hd
        cases hd
        obtain ⟨s', g, a2, f⟩ := give_mi (n := n) (st := m.steps) a1 q1 hb
        obtain ⟨ks, pls, h1, _, _, _, h5, _⟩ := a1.nm.ex
        obtain ⟨l, xs, t, w, g1, _⟩ := h5 n y eh
        exact ⟨s', beg_ok q2 a1.mac (.se a1.mac (.ok a1.mac a1.cal (.here ⟨a1.sur, h1⟩ g1) g)), a2, Frm.app.trans f⟩
    | dd e =>
      dsimp only [Rw.e] at ez
      dsimp only [doR] at hd
      rw [ez] at hd
      cases hd
      exact ⟨_, beg_ok q2 a1.mac .dd, a1.mono (Nat.le_succ _), Frm.app⟩
    | pr e =>
      dsimp only [Rw.e] at ez
      dsimp only [doR] at hd
      rw [ez] at hd
      cases hd
      have hz : (ls.map U.str).length < sizeLine := by rw [List.length_map]; exact Nat.lt_of_le_of_lt hl (by decide)
      refine ⟨_, beg_ok q2 a1.mac (.pr a1.mac q1 a1.prn hz), (print_mi a1).mono (Nat.le_succ _), Frm.app.trans ⟨by rw [List.length_set]; exact Nat.le_refl _, fun i o _ h2 _ h4 => by rw [List.getElem?_set_ne (fun e => h2 e.symm)]; exact h4⟩⟩
/-- a row that raises noname -/
theorem row_no {r : Rw} (a : MI k s x m c sr p h ls b) (hd : doR h ls r = none) : ∃ s1 s', BegR k s x c r.u s' ∧ MI k s1 x m c sr p h ls b ∧ s' = goingS k s1 x m nonameU ∧ Frm s s1 p m.pr := by
  cases ez : txtOf h r.e with
  | none => exact ⟨_, _, beg_no (val_no a ez) a.app.mac, a.app, rfl, Frm.app⟩
  | some z =>
    obtain ⟨v, q1, q2⟩ := val_ok a ez
    have a1 : MI k (s ++ [Ob.lst [v]]) x m c sr p h ls b := a.app
    cases r with
    | se n e =>
      dsimp only [Rw.e] at ez
      dsimp only [doR] at hd
      rw [ez] at hd
      dsimp only at hd
      cases eh : hget h n with
      | some y => rw [eh, if_pos (show (some y).isSome = true from rfl)] at hd; cases hd
      | none => exact ⟨_, _, beg_ok q2 a1.mac (.se a1.mac (.no a1.mac (name_none a1 eh))), a1, rfl, Frm.app⟩
    | lt n e => dsimp only [Rw.e] at ez; dsimp only [doR] at hd; rw [ez] at hd; cases hd
    | dd e => dsimp only [Rw.e] at ez; dsimp only [doR] at hd; rw [ez] at hd; cases hd
    | pr e => dsimp only [Rw.e] at ez; dsimp only [doR] at hd; rw [ez] at hd; cases hd
end SF
set_option Elab.async false
set_option linter.all false
set_option maxRecDepth 100000
set_option maxHeartbeats 4000000
/-! k19: levels that are left; the run -/
namespace SF
open PySem PySem.Spec PyProof.Rows L2 G0 SL
def kdOf (i : Nat) : Str := if i = 0 then "body" else "plain"
/-- a level of the body or of an if's block; d: it is done -/
def LvOk (k : Ks) (s : Sto) (c i l : Nat) (d : Bool) : Prop := ∃ (blk : List U) (a : Int), LevAt k s l (kdOf i) (.tup blk) c .non a ∧ (d = true → (blk.length : Int) ≤ a)
def EndV (g : U) (e : U) : Prop := (g = .non ∧ e = .tup [.str "done"]) ∨ (g = nonameU ∧ e = .tup [.str "raised", .str "noname"])
theorem pops {k : Ks} {x c : Nat} {ev : U} {d : Bool} : ∀ (n : Nat) (s : Sto) (m : Mv) (ll : List Nat), ll.length = n → MacAt k s x m → EndV m.going ev → (m.going = .non → d = true) → s[m.lv]? = some (Ob.lst (ll.map U.rf)) → (∀ i l, ll[i]? = some l → LvOk k s c i l d) → m.pr ≠ m.lv → ∃ s', SetlR k x n s s' ∧ (ll ≠ [] → MacAt k s' x { m with ending := ev }) ∧ (ll = [] → s' = s) ∧ (∀ i o, i ≠ m.lv → i ≠ x → s[i]? = some o → s'[i]? = some o)
  | 0, s, m, ll, hn, hm, hg, hd, hl, hlv, hp => by
    obtain rfl := List.length_eq_zero_iff.mp hn
    exact ⟨s, .empty hm hl, fun h => absurd rfl h, fun _ => rfl, fun i o _ _ h => h⟩
  | n + 1, s, m, ll, hn, hm, hg, hd, hl, hlv, hp => by
    obtain ⟨low, l, rfl⟩ : ∃ low l, ll = low ++ [l] := by
      rcases List.eq_nil_or_concat ll with e | ⟨low, l, e⟩
      · rw [e] at hn; cases hn
      · exact ⟨low, l, by rw [e, List.concat_eq_append]⟩
    have hln : low.length = n := by rw [List.length_append, List.length_singleton] at hn; omega
    rw [List.map_append] at hl
    have ml := (List.getElem?_eq_some_iff.mp hl).1
    have xl : x ≠ m.lv := fun e => by rw [← e, hm] at hl; cases hl
    have keep : ∀ {i : Nat} {C : Addr} {fs : List Str} {ds : List U}, s[i]? = some (Ob.ins C fs ds) → (s.set m.lv (Ob.lst (low.map U.rf)))[i]? = some (Ob.ins C fs ds) := fun {i C fs ds} h => by
      rw [List.getElem?_set_ne (fun e => by rw [← e, hl] at h; cases h)]
      exact h
    obtain ⟨blk, a, lv, da⟩ := hlv low.length l (by rw [List.getElem?_append_right (Nat.le_refl _), Nat.sub_self]; rfl)
    have hm1 : MacAt k (s.set m.lv (Ob.lst (low.map U.rf))) x m := keep hm
    have lv1 : LevAt k (s.set m.lv (Ob.lst (low.map U.rf))) l (kdOf low.length) (.tup blk) c .non a := keep lv
    have one : ∀ {s1 s' : Sto} {n : Nat}, LeaveR k (s.set m.lv (Ob.lst (low.map U.rf))) x l s1 → SetlR k x n s1 s' → SetlR k x (n + 1) s s' := fun h1 h2 => by
      rcases hg with ⟨g1, _⟩ | ⟨g1, _⟩
      · exact .full hm hl lv g1 (by have := da (hd g1); omega) hm1 h1 h2
      · exact .out hm hl lv (by rw [g1]; rfl) hm1 h1 h2
    by_cases e0 : low = []
    · subst e0
      have hn0 : n = 0 := hln.symm
      subst hn0
      have lb : LevAt k (s.set m.lv (Ob.lst [])) l "body" (.tup blk) c .non a := lv1
      refine ⟨endS k (s.set m.lv (Ob.lst [])) x m ev, one ?_ (.empty (m := { m with ending := ev }) ?_ ?_), fun _ => ?_, fun h => (by simp at h), fun i o h1 h2 h3 => ?_⟩
      · rcases hg with ⟨g1, g2⟩ | ⟨g1, g2⟩
        · rw [g2]; exact .bodyDone lb hm1 g1
        · rw [g2]; exact .bodyRaised lb hm1 g1 rfl
      · exact List.getElem?_set_self (List.getElem?_eq_some_iff.mp hm1).1
      · show (endS k (s.set m.lv (Ob.lst [])) x m ev)[m.lv]? = _
        unfold endS
        rw [List.getElem?_set_ne xl, List.getElem?_set_self ml]
      · exact List.getElem?_set_self (List.getElem?_eq_some_iff.mp hm1).1
      · unfold endS
        rw [List.getElem?_set_ne h2.symm, List.getElem?_set_ne h1.symm]
        exact h3
    · have ek : kdOf low.length = "plain" := by
        unfold kdOf
        rw [if_neg (fun z => e0 (List.length_eq_zero_iff.mp z))]
      rw [ek] at lv1
      obtain ⟨s', r1, r2, r3, r4⟩ := pops (ev := ev) (d := d) n _ m low hln hm1 hg hd (List.getElem?_set_self ml) (fun i l' h => by
        obtain ⟨blk', a', q1, q2⟩ := hlv i l' (by rw [List.getElem?_append_left (List.getElem?_eq_some_iff.mp h).1]; exact h)
        exact ⟨blk', a', keep q1, q2⟩) hp
      exact ⟨s', one (.plain lv1) r1, fun _ => r2 e0, fun h => (by simp at h), fun i o h1 h2 h3 => r4 i o h1 h2 (by rw [List.getElem?_set_ne h1.symm]; exact h3)⟩
end SF
set_option Elab.async false
set_option linter.all false
set_option maxRecDepth 100000
set_option maxHeartbeats 4000000
/-! k19: the run -/
namespace SF
open PySem PySem.Spec PyProof.Rows L2 G0 SL
def tailU (cs : List (List U)) : List U := if (foldC cs).isEmpty = true then [] else [ifU (foldC cs)]
theorem foldC_cons {c : List U} {cs : List (List U)} : foldC (c :: cs) = c ++ tailU cs := by rw [foldC]; rfl
structure Stt (k : Ks) (s : Sto) (x : Nat) (m : Mv) (c sr p : Nat) (h : Hd) (ls : List Str) (b : Nat) (low : List Nat) (l : Nat) (rem : List U) : Prop where
  mi : MI k s x m c sr p h ls b
  going : m.going = .non
  ending : m.ending = .non
  deep : m.deep = 0
  lst : s[m.lv]? = some (Ob.lst ((low ++ [l]).map U.rf))
  lows : ∀ i l', low[i]? = some l' → LvOk k s c i l' true
  top : ∃ (blk : List U) (a : Nat), LevAt k s l (kdOf low.length) (.tup blk) c .non (a : Int) ∧ blk.drop a = rem
  nd : l ∉ low
  pl : m.pr ≠ m.lv
theorem keepS {s : Sto} {y i : Nat} {C : Addr} {fs : List Str} {ds : List U} {b o : Ob} (hy : s[y]? = some (Ob.ins C fs ds)) (hi : s[i]? = some o) (ho : ∀ C' ds', o ≠ Ob.ins C' fs ds') : (s.set y b)[i]? = some o := by
  rw [List.getElem?_set_ne (fun e => ho C ds (by rw [e, hi] at hy; exact Option.some.inj hy))]
  exact hi
variable {k : Ks} {s : Sto} {x : Nat} {m : Mv} {c sr p : Nat} {h : Hd} {ls : List Str} {b : Nat} {low : List Nat} {l : Nat} {rem : List U}
theorem NmAt.setI {y : Nat} {C : Addr} {fs : List Str} {ds : List U} {o : Ob} (a : NmAt s p h b) (hy : s[y]? = some (Ob.ins C fs ds)) : NmAt (s.set y o) p h b := by
  obtain ⟨ks, pls, h1, h2, h3, h4, h5, h6⟩ := a.ex
  refine ⟨ks, pls, keepS hy h1 (fun _ _ e => by cases e), h2, h3, h4, fun n z e => ?_, h6⟩
  obtain ⟨l, xs, t, v, g1, g2, g3, g4⟩ := h5 n z e
  exact ⟨l, xs, t, v, g1, keepS hy g2 (fun _ _ e => by cases e), g3, g4⟩
theorem ne_fs {C C' : Addr} {fs fs' : List Str} {ds : List U} (h : fs ≠ fs') : ∀ C2 ds2, Ob.ins C fs ds ≠ Ob.ins C2 fs' ds2 := fun _ _ e => h (by injection e)
theorem MI.setL {C : Addr} {ds : List U} {o : Ob} (a : MI k s x m c sr p h ls b) (hy : s[l]? = some (Ob.ins C lvlFs ds)) : MI k (s.set l o) x m c sr p h ls b :=
  ⟨keepS hy a.mac (ne_fs (C' := C) (by decide)), keepS hy a.cal (ne_fs (C' := C) (by decide)), keepS hy a.sur (ne_fs (C' := C) (by decide)), a.nm.setI hy, keepS hy a.prn (fun _ _ e => by cases e)⟩
theorem MI.setM {m2 : Mv} (a : MI k s x m c sr p h ls b) (e : m2.pr = m.pr) : MI k (s.set x (Ob.ins k.CM macFs m2.l)) x m2 c sr p h ls b :=
  ⟨List.getElem?_set_self (List.getElem?_eq_some_iff.mp a.mac).1, keepS a.mac a.cal (ne_fs (C' := k.CM) (by decide)), keepS a.mac a.sur (ne_fs (C' := k.CM) (by decide)), a.nm.setI a.mac, by rw [e]; exact keepS a.mac a.prn (fun _ _ e => by cases e)⟩
/-- the statement ahead is taken: the machine stands behind it -/
theorem Stt.go {z : Str} {tl : List U} (a : Stt k s x m c sr p h ls b low l (.tup (.str z :: tl) :: rem)) : ∃ (blk : List U) (i : Nat), (stepS k s x m)[m.lv]? = some (Ob.lst (low.map U.rf ++ [.rf l])) ∧ LevAt k (stepS k s x m) l (kdOf low.length) (.tup blk) c .non (i : Int) ∧ atI blk (i : Int) = some (.tup (.str z :: tl)) ∧
    Stt k (reachS k (stepS k s x m) l (kdOf low.length) (.tup blk) c .non (i : Int)) x { m with steps := m.steps + 1 } c sr p h ls b low l rem := by
  obtain ⟨blk, i, t1, t2⟩ := a.top
  have i1 : MI k (stepS k s x m) x { m with steps := m.steps + 1 } c sr p h ls b := a.mi.setM rfl
  have lv1 : LevAt k (stepS k s x m) l (kdOf low.length) (.tup blk) c .non (i : Int) := keepS a.mi.mac t1 (ne_fs (C' := k.CM) (by decide))
  have ls1 : (stepS k s x m)[m.lv]? = some (Ob.lst ((low ++ [l]).map U.rf)) := keepS a.mi.mac a.lst (fun _ _ e => by cases e)
  have hi : blk[i]? = some (.tup (.str z :: tl)) := by
    have := congrArg (fun q => q[0]?) t2
    simpa using this
  refine ⟨blk, i, by rw [ls1, List.map_append]; rfl, lv1, atN hi, i1.setL lv1, a.going, a.ending, a.deep, keepS lv1 ls1 (fun _ _ e => by cases e), fun j l' hj => ?_, ⟨blk, i + 1, List.getElem?_set_self (List.getElem?_eq_some_iff.mp lv1).1, ?_⟩, a.nd, a.pl⟩
  · obtain ⟨b2, a2, q1, q2⟩ := a.lows j l' hj
    refine ⟨b2, a2, ?_, q2⟩
    have q3 : LevAt k (stepS k s x m) l' (kdOf j) (.tup b2) c .non a2 := keepS a.mi.mac q1 (ne_fs (C' := k.CM) (by decide))
    show (List.set (stepS k s x m) l _)[l']? = _
    rw [List.getElem?_set_ne (fun e => a.nd (by rw [e]; exact List.mem_of_getElem? hj))]
    exact q3
  · have := congrArg (fun q => q.drop 1) t2
    simpa [List.drop_drop, Nat.add_comm] using this
/-- what no row touches stays: the levels -/
theorem Stt.frm {s' : Sto} {h' : Hd} {ls' : List Str} {b' : Nat} (a : Stt k s x m c sr p h ls b low l rem) (i : MI k s' x m c sr p h' ls' b') (f : Frm s s' p m.pr) : Stt k s' x m c sr p h' ls' b' low l rem := by
  have lp : m.lv ≠ p := a.mi.npl a.lst
  have kp : ∀ {i : Nat} {C : Addr} {ds : List U}, s[i]? = some (Ob.ins C lvlFs ds) → s'[i]? = some (Ob.ins C lvlFs ds) := fun {i C ds} q => f.2 _ _ (a.mi.np q) (fun e => by rw [e, a.mi.prn] at q; cases q) np_ins q
  refine ⟨i, a.going, a.ending, a.deep, f.2 _ _ lp a.pl.symm np_rfs a.lst, fun j l' hj => ?_, ?_, a.nd, a.pl⟩
  · obtain ⟨b2, a2, q1, q2⟩ := a.lows j l' hj
    exact ⟨b2, a2, kp q1, q2⟩
  · obtain ⟨blk, j, t1, t2⟩ := a.top
    exact ⟨blk, j, kp t1, t2⟩
theorem MI.setLv {o : Ob} {ll : List Nat} (a : MI k s x m c sr p h ls b) (hl : s[m.lv]? = some (Ob.lst (ll.map U.rf))) (hp : m.pr ≠ m.lv) : MI k (s.set m.lv o) x m c sr p h ls b := by
  have kp : ∀ {i : Nat} {o2 : Ob}, s[i]? = some o2 → (∀ ds : List Nat, o2 ≠ Ob.lst (ds.map U.rf)) → (s.set m.lv o)[i]? = some o2 := fun {i o2} hi ho => by
    rw [List.getElem?_set_ne (fun e => ho ll (by rw [← e, hl] at hi; exact (Option.some.inj hi).symm))]
    exact hi
  obtain ⟨ks, pls, h1, h2, h3, h4, h5, h6⟩ := a.nm.ex
  refine ⟨kp a.mac (fun _ e => by cases e), kp a.cal (fun _ e => by cases e), kp a.sur (fun _ e => by cases e), ⟨ks, pls, kp h1 (fun _ e => by cases e), h2, h3, h4, fun n z e => ?_, h6⟩, ?_⟩
  · obtain ⟨l, xs, t, v, g1, g2, g3, g4⟩ := h5 n z e
    exact ⟨l, xs, t, v, g1, kp g2 (fun ds e => np_rfs (xs := ds) xs t v e.symm), g3, g4⟩
  · rw [List.getElem?_set_ne hp.symm]
    exact a.prn
theorem Stt.app {q : Sto} (a : Stt k s x m c sr p h ls b low l rem) : Stt k (s ++ q) x m c sr p h ls b low l rem := a.frm a.mi.app Frm.app
/-- the if that holds goes into its block -/
theorem if_step {fb : List U} (a : Stt k s x m c sr p h ls b low l []) (hz : low.length ≤ 1000) : ∃ s' l2, BegR k s x c (ifU fb) s' ∧ Stt k s' x m c sr p h ls b (low ++ [l]) l2 fb ∧ ∀ i o, i ≠ m.lv → s[i]? = some o → s'[i]? = some o := by
  have a1 : Stt k (s ++ [Ob.lst [.non, .non]]) x m c sr p h ls b low l [] := a.app
  have hv : VsR k c s.length (s ++ [Ob.lst []]) [.tup [.str "none"], .tup [.str "none"]] [] true [.non, .non] (s ++ [Ob.lst [.non, .non]]) := by
    refine .oth (by decide) .none (.oth (by decide) .none ?_)
    rw [set_new, set_new]
    exact .nil
  have hh : HoldR k s c sameN (some (decide (V.non = V.non))) (s ++ [Ob.lst [.non, .non]]) := .same hv newAt rfl rfl rfl
  rw [decide_eq_true (rfl : V.non = V.non)] at hh
  have f0 : ∀ i o, s[i]? = some o → (s ++ [Ob.lst [.non, .non]])[i]? = some o := fun i o q => (Kx.app (X := fun _ => False)).kp i o id q
  generalize s ++ [Ob.lst [.non, .non]] = s1 at a1 hh f0
  have sz : ((low ++ [l]).map U.rf).length < sizeLine := by rw [List.length_map, List.length_append]; exact Nat.lt_of_le_of_lt (show low.length + 1 ≤ 1001 by omega) (by decide)
  have a2 : Stt k (s1 ++ [Ob.ins k.CL lvlFs [.str "plain", .tup fb, .rf c, .non, .int 0]]) x m c sr p h ls b low l [] := a1.app
  have nw : (s1 ++ [Ob.ins k.CL lvlFs [.str "plain", .tup fb, .rf c, .non, .int 0]])[s1.length]? = some (Ob.ins k.CL lvlFs [.str "plain", .tup fb, .rf c, .non, .int 0]) := newAt
  have old : ∀ {i : Nat} {C : Addr} {ds : List U}, s1[i]? = some (Ob.ins C lvlFs ds) → i < s1.length := fun h => (List.getElem?_eq_some_iff.mp h).1
  have bg : BegR k s x c (ifU fb) (pushS k s1 m.lv ((low ++ [l]).map U.rf) [.str "plain", .tup fb, .rf c, .non, .int 0]) := .ifs (.yes hh a1.mi.mac a1.lst sz)
  obtain ⟨blk, j, t1, t2⟩ := a1.top
  obtain ⟨blk', j', t1', t2'⟩ := a2.top
  have kp : ∀ {i : Nat} {C : Addr} {fs : List Str} {ds : List U} {o : Ob}, (s1 ++ [Ob.ins k.CL lvlFs [.str "plain", .tup fb, .rf c, .non, .int 0]])[i]? = some (Ob.ins C fs ds) → ((s1 ++ [Ob.ins k.CL lvlFs [.str "plain", .tup fb, .rf c, .non, .int 0]]).set m.lv o)[i]? = some (Ob.ins C fs ds) := fun {i C fs ds o} h => by
    rw [List.getElem?_set_ne (fun e => by rw [← e, a2.lst] at h; cases h)]
    exact h
  have lo := (List.getElem?_eq_some_iff.mp a2.lst).1
  refine ⟨_, s1.length, bg, ⟨a2.mi.setLv a2.lst a2.pl, a2.going, a2.ending, a2.deep, ?_, fun i l' hi => ?_, ⟨fb, 0, ?_, rfl⟩, fun hm => ?_, a2.pl⟩, fun i o hi q => by unfold pushS; rw [List.getElem?_set_ne hi.symm]; exact (Kx.app (X := fun _ => False)).kp i o id (f0 i o q)⟩
  · unfold pushS
    rw [List.getElem?_set_self lo, List.map_append (l₂ := [s1.length])]
    rfl
  · rcases Nat.lt_or_ge i low.length with hl | hl
    · rw [List.getElem?_append_left hl] at hi
      obtain ⟨b2, a3, q1, q2⟩ := a2.lows i l' hi
      exact ⟨b2, a3, kp q1, q2⟩
    · have e : i = low.length := by have := (List.getElem?_eq_some_iff.mp hi).1; rw [List.length_append, List.length_singleton] at this; omega
      subst e
      rw [List.getElem?_append_right (Nat.le_refl _), Nat.sub_self] at hi
      obtain rfl := Option.some.inj hi
      exact ⟨blk', j', kp t1', fun _ => by have := List.drop_eq_nil_iff.mp t2'; omega⟩
  · have ek : kdOf (low ++ [l]).length = "plain" := by
      unfold kdOf
      rw [if_neg (by rw [List.length_append]; simp)]
    rw [ek]
    exact kp nw
  · rcases List.mem_append.mp hm with q | q
    · obtain ⟨i, hi⟩ := List.getElem?_of_mem q
      obtain ⟨b2, a3, q1, _⟩ := a1.lows i _ hi
      exact Nat.lt_irrefl _ (old q1)
    · rw [← List.mem_singleton.mp q] at t1
      exact Nat.lt_irrefl _ (old t1)
end SF
set_option Elab.async false
set_option linter.all false
set_option maxRecDepth 100000
set_option maxHeartbeats 4000000
/-! k19: the run of the rows -/
namespace SF
open PySem PySem.Spec PyProof.Rows L2 G0 SL
/-- what all rows do: the lines, and whether none raises -/
def runR (h : Hd) (ls : List Str) : List Rw → List Str × Bool
  | [] => (ls, true)
  | r :: rs => match doR h ls r with
    | none => (ls, false)
    | some (h', ls') => runR h' ls' rs
theorem doR_len {h h' : Hd} {ls ls' : List Str} {r : Rw} (e : doR h ls r = some (h', ls')) : ls'.length ≤ ls.length + 1 := by
  cases ez : txtOf h r.e with
  | none => cases r <;> (dsimp only [Rw.e] at ez; dsimp only [doR] at e; rw [ez] at e; cases e)
  | some z =>
    cases r with
    | lt n x => dsimp only [Rw.e] at ez; dsimp only [doR] at e; rw [ez] at e; cases e; exact Nat.le_succ _
    | se n x =>
      dsimp only [Rw.e] at ez
      dsimp only [doR] at e
      rw [ez] at e
      dsimp only at e
      split at e
      · cases e; exact Nat.le_succ _
      · cases e
    | dd x => dsimp only [Rw.e] at ez; dsimp only [doR] at e; rw [ez] at e; cases e; exact Nat.le_succ _
    | pr x => dsimp only [Rw.e] at ez; dsimp only [doR] at e; rw [ez] at e; cases e; rw [List.length_append]; exact Nat.le_refl _
def endOf (ok : Bool) : U := if ok = true then doneU else raisedU
theorem Rw.form (r : Rw) : ∃ (z : Str) (tl : List U), r.u = .tup (.str z :: tl) ∧ z ≠ "while" := by
  cases r with
  | lt n e => exact ⟨"let", _, rfl, by decide⟩
  | se n e => exact ⟨"set", _, rfl, by decide⟩
  | dd e => exact ⟨"do", _, rfl, by decide⟩
  | pr e => exact ⟨"print", _, rfl, by decide⟩
theorem flat_nil : ∀ {cs : List (List Rw)}, tailU (cs.map (·.map Rw.u)) = [] → cs.flatten = []
  | [], _ => rfl
  | c :: cs, h => by
    unfold tailU at h
    rw [List.map_cons, foldC_cons] at h
    cases e : (c.map Rw.u ++ tailU (cs.map (·.map Rw.u))).isEmpty with
    | false => rw [e, if_neg Bool.false_ne_true] at h; cases h
    | true =>
      have e := List.isEmpty_iff.mp e
      obtain ⟨e1, e2⟩ := List.append_eq_nil_iff.mp e
      rw [List.flatten_cons, List.map_eq_nil_iff.mp e1, flat_nil e2]
      rfl
variable {k : Ks} {x c sr p : Nat}
theorem Stt.lvs {s : Sto} {m : Mv} {h : Hd} {ls : List Str} {b : Nat} {low : List Nat} {l : Nat} {rem : List U} {d : Bool} (a : Stt k s x m c sr p h ls b low l rem) (hd : d = true → rem = []) : ∀ i l', (low ++ [l])[i]? = some l' → LvOk k s c i l' d := fun i l' hi => by
  rcases Nat.lt_or_ge i low.length with hl | hl
  · rw [List.getElem?_append_left hl] at hi
    obtain ⟨b2, a3, q1, q2⟩ := a.lows i l' hi
    exact ⟨b2, a3, q1, fun _ => q2 rfl⟩
  · have e : i = low.length := by have := (List.getElem?_eq_some_iff.mp hi).1; rw [List.length_append, List.length_singleton] at this; omega
    subst e
    rw [List.getElem?_append_right (Nat.le_refl _), Nat.sub_self] at hi
    obtain rfl := Option.some.inj hi
    obtain ⟨blk, j, t1, t2⟩ := a.top
    exact ⟨blk, j, t1, fun e => by have := List.drop_eq_nil_iff.mp (t2.trans (hd e)); omega⟩
theorem Stt.stop {s : Sto} {m : Mv} {h : Hd} {ls : List Str} {b : Nat} {low : List Nat} {l : Nat} {rem : List U} (a : Stt k s x m c sr p h ls b low l rem) (hn : rem ≠ []) : SetlR k x 0 s s := by
  obtain ⟨blk, j, t1, t2⟩ := a.top
  have e := a.lst
  rw [List.map_append] at e
  exact .stop a.mi.mac e t1 a.going (by
    rcases Nat.lt_or_ge j blk.length with q | q
    · omega
    · exact absurd (t2.symm.trans (List.drop_eq_nil_of_le q)) hn)
/-- what the run does not touch: not the machine, its lists, the names' dict, a level, a list of values -/
def OldK (x p q v : Nat) (s s' : Sto) : Prop := ∀ i o, i ≠ x → i ≠ p → i ≠ q → i ≠ v → NotPast o → (∀ C ds, o ≠ Ob.ins C lvlFs ds) → s[i]? = some o → s'[i]? = some o
theorem OldK.trans {x p q v : Nat} {s s1 s2 : Sto} (a : OldK x p q v s s1) (b : OldK x p q v s1 s2) : OldK x p q v s s2 := fun i o h1 h2 h3 h4 h5 h6 h => b i o h1 h2 h3 h4 h5 h6 (a i o h1 h2 h3 h4 h5 h6 h)
theorem OldK.frm {x p q v : Nat} {s s' : Sto} (f : Frm s s' p q) : OldK x p q v s s' := fun i o _ h2 h3 _ h5 _ h => f.2 i o h2 h3 h5 h
theorem OldK.go {s : Sto} {m : Mv} {q v l : Nat} {kd : Str} {b : U} {a : Int} (lv : LevAt k (stepS k s x m) l kd b c .non a) : OldK x p q v s (reachS k (stepS k s x m) l kd b c .non a) := fun i o h1 _ _ _ _ h6 h => by
  unfold reachS
  refine keepS lv ?_ h6
  unfold stepS
  rw [List.getElem?_set_ne h1.symm]
  exact h
theorem sim : ∀ (N : Nat) (rs : List Rw) (cs : List (List Rw)) (s : Sto) (m : Mv) (h : Hd) (ls : List Str) (b : Nat) (low : List Nat) (l : Nat), rs.length + cs.flatten.length + cs.length = N → Stt k s x m c sr p h ls b low l (rs.map Rw.u ++ tailU (cs.map (·.map Rw.u))) → rs.map Rw.u ++ tailU (cs.map (·.map Rw.u)) ≠ [] →
    b + N ≤ 1000 → ls.length + N ≤ 1000 → low.length + N ≤ 1000 → 0 ≤ m.steps → m.steps + N < 20000 → ∃ j s' m', RunR k x j s s' ∧ MacAt k s' x m' ∧ m'.pr = m.pr ∧ m'.ending = endOf (runR h ls (rs ++ cs.flatten)).2 ∧ s'[m.pr]? = some (Ob.lst ((runR h ls (rs ++ cs.flatten)).1.map U.str)) ∧ OldK x p m.pr m.lv s s'
  | 0, rs, cs, s, m, h, ls, b, low, l, hN, a, hne, _, _, _, _, _ => by
    have e1 : rs = [] := List.length_eq_zero_iff.mp (by omega)
    have e2 : cs = [] := List.length_eq_zero_iff.mp (by omega)
    subst e1 e2
    exact absurd rfl hne
  | N + 1, [], cs, s, m, h, ls, b, low, l, hN, a, hne, hb, hl, hw, h0, hs => by
    cases cs with
    | nil => exact absurd rfl hne
    | cons c1 cs =>
      have et : tailU ((c1 :: cs).map (·.map Rw.u)) = [ifU (c1.map Rw.u ++ tailU (cs.map (·.map Rw.u)))] := by
        rw [List.map_nil, List.nil_append] at hne
        unfold tailU at hne ⊢
        rw [List.map_cons, foldC_cons] at hne ⊢
        split
        · rename_i q; rw [if_pos q] at hne; exact absurd rfl hne
        · rfl
      have fne : c1.map Rw.u ++ tailU (cs.map (·.map Rw.u)) ≠ [] := fun z => by
        rw [List.map_nil, List.nil_append] at hne
        apply hne
        unfold tailU
        rw [List.map_cons, foldC_cons, z]
        rfl
      rw [et, List.map_nil, List.nil_append] at a
      obtain ⟨blk, i, g1, g2, g3, a2⟩ := a.go
      obtain ⟨s3, l2, bg, a3, f3⟩ := if_step (fb := c1.map Rw.u ++ tailU (cs.map (·.map Rw.u))) a2 (by omega)
      have stp : StepR k s x s3 := .row a.mi.mac g1 g2 g3 (by decide) a2.mi.mac bg a3.mi.mac (a3.stop fne)
      rw [List.length_nil, List.flatten_cons, List.length_append, List.length_cons] at hN
      obtain ⟨j, s', m', r1, r2, r3, r4, r5, r6⟩ := sim N c1 cs s3 _ h ls b (low ++ [l]) l2 (by omega) a3 fne (by omega) (by omega) (by rw [List.length_append, List.length_singleton]; omega) (by show 0 ≤ m.steps + 1; omega) (by show m.steps + 1 + (N : Int) < 20000; omega)
      refine ⟨j + 1, s', m', .step a.mi.mac a.ending (by omega) stp a3.mi.mac (by rw [a3.deep]; decide) r1, r2, r3, ?_, ?_, (OldK.go g2).trans (OldK.trans (fun i o _ _ _ h4 _ _ h => f3 i o h4 h) r6)⟩
      · rw [List.nil_append, List.flatten_cons]; exact r4
      · rw [List.nil_append, List.flatten_cons]; exact r5
  | N + 1, r :: rs, cs, s, m, h, ls, b, low, l, hN, a, hne, hb, hl, hw, h0, hs => by
    obtain ⟨z, tl, e1, e2⟩ := r.form
    rw [List.map_cons, List.cons_append, e1] at a
    obtain ⟨blk, i, g1, g2, g3, a2⟩ := a.go
    rw [List.length_cons] at hN
    cases ed : doR h ls r with
    | none =>
      obtain ⟨s1, s3, bg, i1, es, f1⟩ := row_no a2.mi ed
      have a3 := a2.frm i1 f1
      subst es
      rw [e1] at bg
      have hm3 : MacAt k (goingS k s1 x { m with steps := m.steps + 1 } nonameU) x { { m with steps := m.steps + 1 } with going := nonameU } := List.getElem?_set_self (List.getElem?_eq_some_iff.mp i1.mac).1
      obtain ⟨s', p1, p2, _, p4⟩ := pops (ev := raisedU) (d := false) (low ++ [l]).length (goingS k s1 x { m with steps := m.steps + 1 } nonameU) { { m with steps := m.steps + 1 } with going := nonameU } (low ++ [l]) rfl hm3 (.inr ⟨rfl, rfl⟩) (fun q => by cases q) (keepS i1.mac a3.lst (fun _ _ e => by cases e)) (fun j l' hj => by
        obtain ⟨b2, a4, q1, q2⟩ := a3.lvs (d := false) (fun q => by cases q) j l' hj
        exact ⟨b2, a4, keepS i1.mac q1 (ne_fs (C' := k.CM) (by decide)), q2⟩) a3.pl
      have mf := p2 (by simp)
      have er : runR h ls (r :: rs ++ cs.flatten) = (ls, false) := by rw [List.cons_append, runR, ed]
      have px : m.pr ≠ x := fun e => by
        have q := i1.mac
        have q2 := i1.prn
        rw [show ({ m with steps := m.steps + 1 } : Mv).pr = m.pr from rfl, e] at q2
        unfold MacAt at q
        rw [q2] at q
        cases q
      refine ⟨1, s', _, .step a.mi.mac a.ending (by omega) (.row a.mi.mac g1 g2 g3 e2 a2.mi.mac bg hm3 p1) mf (by show m.deep ≤ 200; rw [a.deep]; decide) (.done mf rfl), mf, rfl, by rw [er]; rfl, ?_, (OldK.go g2).trans ((OldK.frm f1).trans fun i o h1 _ _ h4 _ _ h => p4 i o h4 h1 (by unfold goingS; rw [List.getElem?_set_ne h1.symm]; exact h))⟩
      rw [er]
      exact p4 _ _ a3.pl px (keepS i1.mac i1.prn (fun _ _ e => by cases e))
    | some hl2 =>
      obtain ⟨h', ls'⟩ := hl2
      obtain ⟨s3, bg, i1, f1⟩ := row_ok a2.mi (by omega) (by omega) ed
      have a3 := a2.frm i1 f1
      rw [e1] at bg
      have er : runR h ls (r :: rs ++ cs.flatten) = runR h' ls' (rs ++ cs.flatten) := by rw [List.cons_append, runR, ed]
      rw [er]
      by_cases en : rs.map Rw.u ++ tailU (cs.map (·.map Rw.u)) = []
      · obtain ⟨s', p1, p2, _, p4⟩ := pops (ev := doneU) (d := true) (low ++ [l]).length s3 { m with steps := m.steps + 1 } (low ++ [l]) rfl i1.mac (.inl ⟨a.going, rfl⟩) (fun _ => rfl) a3.lst (a3.lvs (fun _ => en)) a3.pl
        have mf := p2 (by simp)
        obtain ⟨n1, n2⟩ := List.append_eq_nil_iff.mp en
        have ef : rs ++ cs.flatten = [] := by rw [List.map_eq_nil_iff.mp n1, flat_nil n2]; rfl
        have px : m.pr ≠ x := fun e => by
          have q := i1.mac
          have q2 := i1.prn
          rw [show ({ m with steps := m.steps + 1 } : Mv).pr = m.pr from rfl, e] at q2
          unfold MacAt at q
          rw [q2] at q
          cases q
        rw [ef]
        exact ⟨1, s', _, .step a.mi.mac a.ending (by omega) (.row a.mi.mac g1 g2 g3 e2 a2.mi.mac bg i1.mac p1) mf (by show m.deep ≤ 200; rw [a.deep]; decide) (.done mf rfl), mf, rfl, rfl, p4 _ _ a3.pl px i1.prn, (OldK.go g2).trans ((OldK.frm f1).trans fun i o h1 _ _ h4 _ _ h => p4 i o h4 h1 h)⟩
      · have hll : ls'.length ≤ ls.length + 1 := doR_len ed
        obtain ⟨j, s', m', r1, r2, r3, r4, r5, r6⟩ := sim N rs cs s3 _ h' ls' (b + 1) low l (by omega) a3 en (by omega) (by omega) (by omega) (by show 0 ≤ m.steps + 1; omega) (by show m.steps + 1 + (N : Int) < 20000; omega)
        exact ⟨j + 1, s', m', .step a.mi.mac a.ending (by omega) (.row a.mi.mac g1 g2 g3 e2 a2.mi.mac bg i1.mac (a3.stop en)) i1.mac (by show m.deep ≤ 200; rw [a.deep]; decide) r1, r2, r3, r4, r5, (OldK.go g2).trans ((OldK.frm f1).trans r6)⟩
end SF
set_option Elab.async false
set_option linter.all false
set_option maxRecDepth 100000
set_option maxHeartbeats 4000000
/-! k19: from a new machine to its end -/
namespace SF
open PySem PySem.Spec PyProof.Rows L2 G0 SL
variable {k : Ks} {x : Nat}
theorem ini_stt {s : Sto} {blk : List U} (hx : x < s.length) : Stt k (iniS k s x blk) x (iniM s.length) (s.length + 4) (s.length + 2) (s.length + 3) [] [] 0 [] (s.length + 5) blk := by
  unfold iniS
  refine ⟨⟨atx hx, atn (j := 4), atn (j := 2), ⟨[], [], atn (j := 3), rfl, Nat.le_refl _, fun _ _ => rfl, fun n z e => (by cases e), fun n n' l e => (by cases e)⟩, atn (j := 7)⟩, rfl, rfl, rfl, atn (j := 6), fun i l' e => (by cases e), ⟨blk, 0, atn (j := 5), rfl⟩, fun e => (by cases e), ?_⟩
  show s.length + 7 ≠ s.length + 6
  omega
theorem ini_old {s : Sto} {blk : List U} : ∀ i o, i ≠ x → s[i]? = some o → (iniS k s x blk)[i]? = some o := fun i o h1 h => by
  unfold iniS
  exact atp (fun e => h1 e.symm) h
/-- a new machine with the rows' block goes to its end -/
theorem run_all {s : Sto} (hx : x < s.length) (css : List (List Rw)) (hn : css.flatten.length + css.length ≤ 900) : ∃ n s1 j s' m', SetlR k x n (iniS k s x (foldC (css.map (·.map Rw.u)))) s1 ∧ RunR k x j s1 s' ∧ MacAt k s' x m' ∧ m'.pr = s.length + 7 ∧ m'.ending = endOf (runR [] [] css.flatten).2 ∧ s'[s.length + 7]? = some (Ob.lst ((runR [] [] css.flatten).1.map U.str)) ∧
    ∀ i o, i < s.length → i ≠ x → NotPast o → (∀ C ds, o ≠ Ob.ins C lvlFs ds) → s[i]? = some o → s'[i]? = some o := by
  have a := ini_stt (k := k) (blk := foldC (css.map (·.map Rw.u))) hx
  by_cases e : foldC (css.map (·.map Rw.u)) = []
  · obtain ⟨s', p1, p2, _, p4⟩ := pops (k := k) (c := s.length + 4) (ev := doneU) (d := true) 1 _ _ [s.length + 5] rfl a.mi.mac (.inl ⟨rfl, rfl⟩) (fun _ => rfl) a.lst (a.lvs (fun _ => e)) a.pl
    have mf := p2 (by simp)
    have ef : css.flatten = [] := by
      have : tailU (css.map (·.map Rw.u)) = [] := by unfold tailU; rw [e]; rfl
      exact flat_nil this
    rw [ef]
    refine ⟨_, s', 0, s', _, p1, .done mf rfl, mf, rfl, rfl, p4 _ _ a.pl (by omega) a.mi.prn, fun i o h1 h2 h3 h4 h => p4 i o (by show i ≠ s.length + 6; omega) h2 (ini_old i o h2 h)⟩
  · cases css with
    | nil => exact absurd rfl e
    | cons c1 cs =>
      rw [List.map_cons, foldC_cons] at a e ⊢
      rw [List.flatten_cons, List.length_append, List.length_cons] at hn
      obtain ⟨j, s', m', r1, r2, r3, r4, r5, r6⟩ := sim _ c1 cs _ _ [] [] 0 [] (s.length + 5) rfl a e (by omega) (by rw [List.length_nil]; omega) (by rw [List.length_nil]; omega) (Int.le_refl 0) (by show (0 : Int) + _ < 20000; omega)
      rw [List.flatten_cons]
      exact ⟨0, _, j, s', m', a.stop e, r1, r2, r3, r4, r5, fun i o h1 h2 h3 h4 h => r6 i o h2 (by omega) (by show i ≠ s.length + 7; omega) (by show i ≠ s.length + 6; omega) h3 h4 (ini_old i o h2 h)⟩
end SF
set_option Elab.async false
set_option linter.all false
set_option maxRecDepth 100000
set_option maxHeartbeats 4000000
/-! parts that may stand where they stand -/
namespace SF
open PySem PySem.Spec PyProof.Rows L2 G0 BV
theorem good_leaf {pl : PlD} {k : Str} {b : B} {d t : Nat} {r : Bool} (h : decide (k = "name" ∨ k = "field" ∨ k = "class" ∨ k = "params") = true) (hl : leafF pl k b = true) : good pl ⟨k, b, d, r, t⟩ = true := by
  rw [good_eq]
  have e : innF pl ⟨k, b, d, r, t⟩ = some [] := by
    unfold innF
    dsimp only
    rw [if_pos (of_decide_eq_true h), if_pos hl]
  rw [e]
  rfl
theorem inn_nm {pl : PlD} {z : Str} {d t : Nat} {r : Bool} (h : nameS z = true) : good pl ⟨"name", .str z, d, r, t⟩ = true := by
  refine good_leaf (by decide +kernel) ?_
  have n1 : ¬ ((Str.ofString "name") = Str.ofString "params") := by decide +kernel
  have n2 : ¬ ((Str.ofString "name") = Str.ofString "field") := by decide +kernel
  have n3 : decide ((Str.ofString "name") = Str.ofString "name") = true := decide_eq_true rfl
  unfold leafF
  rw [if_neg n1]
  dsimp only
  rw [if_neg n2, h, n3]
  rfl
def formW (k w : Str) : Option (List Str) := if k = "statement" then tabSt.lookup w else if k = "test" then tabT.lookup w else if k = "right" ∧ w ∈ tabC.map (·.1) then tabC.lookup w else tabS.lookup w
def frmK (k : Str) : Bool := !decide (k = "name" ∨ k = "field" ∨ k = "class" ∨ k = "params") && (!decide (k = "block") && (!decide (k = "function") && (!decide (k = "things") && !decide (k = "test"))))
def frmW (w : Str) : Bool := !decide (w = "me") && (!decide (w = "parent") && !decide (w = "return"))
theorem inn_frm {pl : PlD} {k w : Str} {ps : List B} {d t : Nat} {r : Bool} {fm : List Str} {l : List Pt} (hk : frmK k = true) (hw : frmW w = true) (hf : formW k w = some fm) (hl : ps.length = fm.length) (ht : t ≤ 3) (he : (fm.zip ps).map (fun q => (⟨q.1, q.2, d, r, t⟩ : Pt)) = l) (hg : l.all (good pl) = true) : good pl ⟨k, .tup (.str w :: ps), d, r, t⟩ = true := by
  unfold frmK at hk
  unfold frmW at hw
  simp only [Bool.and_eq_true, Bool.not_eq_true', decide_eq_false_iff_not] at hk hw
  obtain ⟨k1, k2, k3, k4, k5⟩ := hk
  obtain ⟨w1, w2, w3⟩ := hw
  have et : tstF k t = t := by unfold tstF; rw [if_neg k5]
  rw [good_eq]
  have e : innF pl ⟨k, .tup (.str w :: ps), d, r, t⟩ = some l := by
    unfold innF
    dsimp only
    rw [if_neg k1, if_neg k2, if_neg k3, if_neg k4]
    unfold frmF
    rw [show formF k (.str w :: ps) = some fm from hf]
    dsimp only
    have hm : mayS pl (wordOf (.str w :: ps)) r = true := by
      show mayS pl w r = true
      unfold mayS
      rw [if_neg w1, if_neg w2, if_neg w3]
    rw [if_pos ⟨by rw [List.length_cons, hl]; omega, by rw [et]; exact ht, hm⟩, List.tail_cons, et, he]
  rw [e]
  exact hg
theorem good_block {pl : PlD} {ps : List B} {d t : Nat} {r : Bool} (hd : d < 8) (hl : ps.length ≤ 12) (hg : (ps.map fun b => (⟨"statement", b, d + 1, r, 0⟩ : Pt)).all (good pl) = true) : good pl ⟨"block", .tup ps, d, r, t⟩ = true := by
  rw [good_eq]
  have n1 : ¬ ((Str.ofString "block") = Str.ofString "name" ∨ (Str.ofString "block") = Str.ofString "field" ∨ (Str.ofString "block") = Str.ofString "class" ∨ (Str.ofString "block") = Str.ofString "params") := by decide +kernel
  have e : innF pl ⟨"block", .tup ps, d, r, t⟩ = some (ps.map fun b => (⟨"statement", b, d + 1, r, 0⟩ : Pt)) := by
    unfold innF
    dsimp only
    rw [if_neg n1, if_pos rfl]
    unfold stmF
    rw [if_neg (by omega)]
  rw [e]
  exact hg
theorem all1 {p : Pt → Bool} {a : Pt} (h : p a = true) : [a].all p = true := by rw [List.all_cons, h]; rfl
theorem all2 {p : Pt → Bool} {a b : Pt} (h : p a = true) (k : p b = true) : [a, b].all p = true := by rw [List.all_cons, h, List.all_cons, k]; rfl
end SF
set_option Elab.async false
set_option linter.all false
set_option maxRecDepth 100000
set_option maxHeartbeats 4000000
/-! k19: the block of the rows may stand -/
namespace SF
open PySem PySem.Spec PyProof.Rows L2 G0 BV
def Sm.b : Sm → B
  | .non => .tup [.str "none"]
  | .word z => .tup [.str "word", .str z]
  | .name n => .tup [.str "name", .str n]
def Rw.b : Rw → B
  | .lt n e => .tup [.str "let", .str n, e.b]
  | .se n e => .tup [.str "set", .str n, e.b]
  | .dd e => .tup [.str "do", e.b]
  | .pr e => .tup [.str "print", e.b]
def nmSm : Sm → Prop
  | .non => True
  | .word z => nameS z = true
  | .name n => nameS n = true
def nmRw : Rw → Prop
  | .lt n e => nameS n = true ∧ nmSm e
  | .se n e => nameS n = true ∧ nmSm e
  | .dd e => nmSm e
  | .pr e => nmSm e
def sameB : B := .tup [.str "same", .tup [.str "none"], .tup [.str "none"]]
def ifB (b : List B) : B := .tup [.str "if", sameB, .tup b, .tup []]
def foldB : List (List B) → List B
  | [] => []
  | c :: cs => c ++ (if (foldB cs).isEmpty = true then [] else [ifB (foldB cs)])
theorem good_sm {k : Str} {e : Sm} {d t : Nat} {r : Bool} (hk : k = "right" ∨ k = "simple") (ht : t ≤ 3) (h : nmSm e) : good plN ⟨k, e.b, d, r, t⟩ = true := by
  rcases hk with rfl | rfl
  · cases e with
    | non => exact inn_frm (w := "none") (ps := []) (fm := []) (l := []) (by decide +kernel) (by decide +kernel) (by decide +kernel) rfl ht rfl rfl
    | word z => exact inn_frm (w := "word") (ps := [.str z]) (fm := ["name"]) (by decide +kernel) (by decide +kernel) (by decide +kernel) rfl ht rfl (all1 (inn_nm h))
    | name z => exact inn_frm (w := "name") (ps := [.str z]) (fm := ["name"]) (by decide +kernel) (by decide +kernel) (by decide +kernel) rfl ht rfl (all1 (inn_nm h))
  · cases e with
    | non => exact inn_frm (w := "none") (ps := []) (fm := []) (l := []) (by decide +kernel) (by decide +kernel) (by decide +kernel) rfl ht rfl rfl
    | word z => exact inn_frm (w := "word") (ps := [.str z]) (fm := ["name"]) (by decide +kernel) (by decide +kernel) (by decide +kernel) rfl ht rfl (all1 (inn_nm h))
    | name z => exact inn_frm (w := "name") (ps := [.str z]) (fm := ["name"]) (by decide +kernel) (by decide +kernel) (by decide +kernel) rfl ht rfl (all1 (inn_nm h))
theorem good_rw {x : Rw} {d : Nat} {r : Bool} (h : nmRw x) : good plN ⟨"statement", x.b, d, r, 0⟩ = true := by
  cases x with
  | lt n e => exact inn_frm (w := "let") (ps := [.str n, e.b]) (fm := ["name", "right"]) (by decide +kernel) (by decide +kernel) (by decide +kernel) rfl (by decide) rfl (all2 (inn_nm h.1) (good_sm (.inl rfl) (by decide) h.2))
  | se n e => exact inn_frm (w := "set") (ps := [.str n, e.b]) (fm := ["name", "right"]) (by decide +kernel) (by decide +kernel) (by decide +kernel) rfl (by decide) rfl (all2 (inn_nm h.1) (good_sm (.inl rfl) (by decide) h.2))
  | dd e => exact inn_frm (w := "do") (ps := [e.b]) (fm := ["right"]) (by decide +kernel) (by decide +kernel) (by decide +kernel) rfl (by decide) rfl (all1 (good_sm (.inl rfl) (by decide) h))
  | pr e => exact inn_frm (w := "print") (ps := [e.b]) (fm := ["simple"]) (by decide +kernel) (by decide +kernel) (by decide +kernel) rfl (by decide) rfl (all1 (good_sm (.inr rfl) (by decide) h))
theorem good_same {d : Nat} {r : Bool} : good plN ⟨"test", sameB, d, r, 0⟩ = true := by
  rw [good_eq]
  have k1 : ¬ ((Str.ofString "test") = Str.ofString "name" ∨ (Str.ofString "test") = Str.ofString "field" ∨ (Str.ofString "test") = Str.ofString "class" ∨ (Str.ofString "test") = Str.ofString "params") := by decide +kernel
  have k2 : ¬ ((Str.ofString "test") = Str.ofString "block") := by decide +kernel
  have k3 : ¬ ((Str.ofString "test") = Str.ofString "function") := by decide +kernel
  have k4 : ¬ ((Str.ofString "test") = Str.ofString "things") := by decide +kernel
  have hf : formF "test" [.str "same", .tup [.str "none"], .tup [.str "none"]] = some (["simple", "simple"] : List Str) := by
    unfold formF
    dsimp only
    rw [if_neg (by decide +kernel), if_pos rfl]
    decide +kernel
  have e : innF plN ⟨"test", sameB, d, r, 0⟩ = some [⟨"simple", .tup [.str "none"], d, r, 1⟩, ⟨"simple", .tup [.str "none"], d, r, 1⟩] := by
    unfold innF sameB
    dsimp only
    rw [if_neg k1, if_neg k2, if_neg k3, if_neg k4]
    unfold frmF
    rw [hf]
    dsimp only
    have hm : mayS plN (wordOf [.str "same", .tup [.str "none"], .tup [.str "none"]]) r = true := by
      show mayS plN "same" r = true
      unfold mayS
      rw [if_neg (by decide +kernel), if_neg (by decide +kernel), if_neg (by decide +kernel)]
    have et : tstF "test" 0 = 1 := by unfold tstF; rw [if_pos rfl]
    rw [et, if_pos ⟨rfl, by decide, hm⟩]
    rfl
  rw [e]
  exact all2 (good_sm (e := .non) (.inr rfl) (by decide) trivial) (good_sm (e := .non) (.inr rfl) (by decide) trivial)
theorem all3 {p : Pt → Bool} {a b c : Pt} (h : p a = true) (k : p b = true) (l : p c = true) : [a, b, c].all p = true := by rw [List.all_cons, h, List.all_cons, k, List.all_cons, l]; rfl
/-- chunks of at most 11 rows, nested -/
theorem good_fold : ∀ (css : List (List Rw)) (d : Nat), d + css.length ≤ 8 → (∀ c ∈ css, c.length ≤ 11 ∧ ∀ x ∈ c, nmRw x) → d < 8 → good plN ⟨"block", .tup (foldB (css.map (·.map Rw.b))), d, false, 0⟩ = true
  | [], d, _, _, hd => good_block hd (Nat.zero_le _) rfl
  | c :: cs, d, hn, hc, hd => by
    rw [List.length_cons] at hn
    obtain ⟨c1, c2⟩ := hc c List.mem_cons_self
    rw [List.map_cons, foldB]
    have rows : ((c.map Rw.b).map fun b => (⟨"statement", b, d + 1, false, 0⟩ : Pt)).all (good plN) = true := by
      rw [List.all_eq_true]
      intro q hq
      obtain ⟨b, hb, rfl⟩ := List.mem_map.mp hq
      obtain ⟨x, hx, rfl⟩ := List.mem_map.mp hb
      exact good_rw (c2 x hx)
    split
    · rw [List.append_nil]
      exact good_block hd (by rw [List.length_map]; omega) rows
    · rename_i ne
      have hcs : cs ≠ [] := fun z => ne (by rw [z]; rfl)
      have h1 : 0 < cs.length := List.length_pos_iff.mpr hcs
      refine good_block hd (by rw [List.length_append, List.length_map]; simp; omega) ?_
      rw [List.map_append, List.all_append, rows, Bool.true_and]
      refine all1 ?_
      refine inn_frm (k := "statement") (t := 0) (w := "if") (ps := [sameB, .tup (foldB (cs.map (·.map Rw.b))), .tup []]) (fm := ["test", "block", "block"]) (by decide +kernel) (by decide +kernel) (by decide +kernel) rfl (by decide) rfl ?_
      exact all3 good_same (good_fold cs (d + 1) (by omega) (fun c hc' => hc c (List.mem_cons_of_mem _ hc')) (by omega)) (good_block (by omega) (Nat.zero_le _) rfl)
end SF
set_option Elab.async false
set_option linter.all false
set_option maxRecDepth 100000
set_option maxHeartbeats 4000000
/-! k19: the block of the rows as data -/
namespace SF
open PySem PySem.Spec PyProof.Rows L2 G0 BV
variable {s : SL.Sto}
theorem drs_nil : SL.Drs s [] [] := by rw [SL.Drs]
theorem drs_cons {d : B} {u : SL.U} {ds : List B} {us : List SL.U} (h : SL.Dr s d u) (k : SL.Drs s ds us) : SL.Drs s (d :: ds) (u :: us) := by rw [SL.Drs]; exact ⟨_, _, rfl, h, k⟩
theorem dr_tupI {ds : List B} {us : List SL.U} (h : SL.Drs s ds us) : SL.Dr s (.tup ds) (.tup us) := by rw [SL.Dr]; exact ⟨_, rfl, h⟩
theorem dr_str {z : Str} : SL.Dr s (.str z) (.str z) := by rw [SL.Dr]
theorem drs_app : ∀ {ds es : List B} {us vs : List SL.U}, SL.Drs s ds us → SL.Drs s es vs → SL.Drs s (ds ++ es) (us ++ vs)
  | [], es, us, vs, h, k => by rw [SL.Drs] at h; subst h; exact k
  | d :: ds, es, us, vs, h, k => by
    rw [SL.Drs] at h
    obtain ⟨u, r, rfl, h1, h2⟩ := h
    exact drs_cons h1 (drs_app h2 k)
theorem dr_sm (e : Sm) : SL.Dr s e.b e.u := by
  cases e with
  | non => exact dr_tupI (drs_cons dr_str drs_nil)
  | word z => exact dr_tupI (drs_cons dr_str (drs_cons dr_str drs_nil))
  | name z => exact dr_tupI (drs_cons dr_str (drs_cons dr_str drs_nil))
theorem dr_rw (x : Rw) : SL.Dr s x.b x.u := by
  cases x with
  | lt n e => exact dr_tupI (drs_cons dr_str (drs_cons dr_str (drs_cons (dr_sm e) drs_nil)))
  | se n e => exact dr_tupI (drs_cons dr_str (drs_cons dr_str (drs_cons (dr_sm e) drs_nil)))
  | dd e => exact dr_tupI (drs_cons dr_str (drs_cons (dr_sm e) drs_nil))
  | pr e => exact dr_tupI (drs_cons dr_str (drs_cons (dr_sm e) drs_nil))
theorem drs_rws : ∀ xs : List Rw, SL.Drs s (xs.map Rw.b) (xs.map Rw.u)
  | [] => drs_nil
  | x :: xs => drs_cons (dr_rw x) (drs_rws xs)
theorem fold_empty : ∀ css : List (List Rw), (foldB (css.map (·.map Rw.b))).isEmpty = (foldC (css.map (·.map Rw.u))).isEmpty
  | [] => rfl
  | c :: cs => by
    rw [List.map_cons, List.map_cons, foldB, foldC, fold_empty cs]
    cases c with
    | nil =>
      rw [List.map_nil, List.map_nil, List.nil_append, List.nil_append]
      split <;> rfl
    | cons x c => rfl
theorem drs_fold : ∀ css : List (List Rw), SL.Drs s (foldB (css.map (·.map Rw.b))) (foldC (css.map (·.map Rw.u)))
  | [] => drs_nil
  | c :: cs => by
    rw [List.map_cons, List.map_cons, foldB, foldC, fold_empty cs]
    refine drs_app (drs_rws c) ?_
    split
    · exact drs_nil
    · exact drs_cons (dr_tupI (drs_cons dr_str (drs_cons (dr_tupI (drs_cons dr_str (drs_cons (dr_sm .non) (drs_cons (dr_sm .non) drs_nil)))) (drs_cons (dr_tupI (drs_fold cs)) (drs_cons (dr_tupI drs_nil) drs_nil))))) drs_nil
theorem sz_sm (e : Sm) : szB e.b ≤ 3 := by cases e <;> simp [Sm.b, szB, szsB]
theorem sz_rw (x : Rw) : szB x.b ≤ 6 := by
  cases x with
  | lt n e => have := sz_sm e; simp only [Rw.b, szB, szsB]; omega
  | se n e => have := sz_sm e; simp only [Rw.b, szB, szsB]; omega
  | dd e => have := sz_sm e; simp only [Rw.b, szB, szsB]; omega
  | pr e => have := sz_sm e; simp only [Rw.b, szB, szsB]; omega
theorem sz_rws : ∀ xs : List Rw, szsB (xs.map Rw.b) ≤ 6 * xs.length
  | [] => by simp [szsB]
  | x :: xs => by
    have h1 := sz_rws xs
    have h2 := sz_rw x
    rw [List.map_cons, szsB, List.length_cons]
    omega
theorem sz_fold : ∀ css : List (List Rw), szsB (foldB (css.map (·.map Rw.b))) ≤ 6 * css.flatten.length + 20 * css.length
  | [] => by simp [foldB, szsB]
  | c :: cs => by
    have h1 := sz_rws c
    have h2 := sz_fold cs
    rw [List.map_cons, foldB, szs_app, List.flatten_cons, List.length_append, List.length_cons]
    split
    · simp only [szsB]; omega
    · simp only [ifB, sameB, szB, szsB]; omega
theorem nm_len {z : Str} (h : nameS z = true) : z.length ≤ 1000 := by
  unfold nameS at h
  rw [Bool.and_eq_true] at h
  have := of_decide_eq_true h.1
  omega
theorem pd_sm {e : Sm} (h : nmSm e) : pdB e.b = true := by
  cases e with
  | non => decide +kernel
  | word z =>
    have := nm_len h
    simp only [Sm.b, pdB, pdsB, Bool.and_eq_true, decide_eq_true_eq]
    exact ⟨by decide, this, trivial⟩
  | name z =>
    have := nm_len h
    simp only [Sm.b, pdB, pdsB, Bool.and_eq_true, decide_eq_true_eq]
    exact ⟨by decide, this, trivial⟩
theorem pd_rw {x : Rw} (h : nmRw x) : pdB x.b = true := by
  cases x with
  | lt n e =>
    have h1 := nm_len h.1
    have h2 := pd_sm h.2
    simp only [Rw.b, pdB, pdsB, Bool.and_eq_true, decide_eq_true_eq]
    exact ⟨by decide, h1, h2, trivial⟩
  | se n e =>
    have h1 := nm_len h.1
    have h2 := pd_sm h.2
    simp only [Rw.b, pdB, pdsB, Bool.and_eq_true, decide_eq_true_eq]
    exact ⟨by decide, h1, h2, trivial⟩
  | dd e =>
    have h2 := pd_sm h
    simp only [Rw.b, pdB, pdsB, Bool.and_eq_true, decide_eq_true_eq]
    exact ⟨by decide, h2, trivial⟩
  | pr e =>
    have h2 := pd_sm h
    simp only [Rw.b, pdB, pdsB, Bool.and_eq_true, decide_eq_true_eq]
    exact ⟨by decide, h2, trivial⟩
theorem pds_cons {d : B} {ds : List B} (h : pdB d = true) (k : pdsB ds = true) : pdsB (d :: ds) = true := by rw [pdsB, h, k]; rfl
theorem pds_app' : ∀ {xs ys : List B}, pdsB xs = true → pdsB ys = true → pdsB (xs ++ ys) = true
  | [], ys, _, k => k
  | x :: xs, ys, h, k => by
    rw [pdsB, Bool.and_eq_true] at h
    exact pds_cons h.1 (pds_app' h.2 k)
theorem pd_rws : ∀ {xs : List Rw}, (∀ x ∈ xs, nmRw x) → pdsB (xs.map Rw.b) = true
  | [], _ => rfl
  | x :: xs, h => pds_cons (pd_rw (h x List.mem_cons_self)) (pd_rws fun y hy => h y (List.mem_cons_of_mem _ hy))
theorem pd_same : pdB sameB = true := by decide +kernel
theorem pd_fold : ∀ {css : List (List Rw)}, (∀ c ∈ css, ∀ x ∈ c, nmRw x) → pdsB (foldB (css.map (·.map Rw.b))) = true
  | [], _ => rfl
  | c :: cs, h => by
    rw [List.map_cons, foldB]
    refine pds_app' (pd_rws (h c List.mem_cons_self)) ?_
    split
    · rfl
    · refine pds_cons ?_ rfl
      have ih := pd_fold (css := cs) fun c hc => h c (List.mem_cons_of_mem _ hc)
      have h1 : pdB (.tup (foldB (cs.map (·.map Rw.b)))) = true := ih
      show pdsB [.str "if", sameB, .tup (foldB (cs.map (·.map Rw.b))), .tup []] = true
      exact pds_cons (by decide +kernel) (pds_cons pd_same (pds_cons h1 (pds_cons rfl rfl)))
end SF
set_option Elab.async false
set_option linter.all false
set_option maxRecDepth 100000
set_option maxHeartbeats 4000000
/-! k19: the chunks of the rows; a program of the rows runs -/
namespace SF
open PySem PySem.Spec PyProof.Rows L2 G0 BV
def chunkR (rs : List Rw) (i : Nat) : List Rw := (rs.drop (11 * i)).take 11
def chunksR (rs : List Rw) : List (List Rw) := (List.range ((rs.length + 10) / 11)).map (chunkR rs)
theorem chunks_map {rs : List Rw} : chunks (rs.map Rw.u) = (chunksR rs).map (·.map Rw.u) := by
  unfold chunks chunksR
  rw [List.map_map, List.length_map]
  refine List.map_congr_left fun i _ => ?_
  show chunk (rs.map Rw.u) i = (chunkR rs i).map Rw.u
  unfold chunk chunkR
  rw [List.map_take, List.map_drop]
theorem flat_take {rs : List Rw} : ∀ n, ((List.range n).map (chunkR rs)).flatten = rs.take (11 * n)
  | 0 => rfl
  | n + 1 => by
    rw [List.range_succ, List.map_append, List.flatten_append, flat_take n, show 11 * (n + 1) = 11 * n + 11 by omega, List.take_add]
    simp [chunkR]
theorem flat_chunks {rs : List Rw} : (chunksR rs).flatten = rs := by
  unfold chunksR
  rw [flat_take]
  exact List.take_of_length_le (by omega)
theorem chunks_len {rs : List Rw} : (chunksR rs).length = (rs.length + 10) / 11 := by unfold chunksR; rw [List.length_map, List.length_range]
theorem chunks_mem {rs : List Rw} {c : List Rw} (h : c ∈ chunksR rs) : c.length ≤ 11 ∧ ∀ x ∈ c, x ∈ rs := by
  obtain ⟨i, _, rfl⟩ := List.mem_map.mp h
  refine ⟨by unfold chunkR; rw [List.length_take]; omega, fun x hx => ?_⟩
  unfold chunkR at hx
  exact List.mem_of_mem_drop (List.mem_of_mem_take hx)
theorem okRw_nm {zs : List Str} (hz : zs.all nameS = true) {r : Rw} (h : okRw zs r) : nmRw r := by
  have nm : ∀ n, n ∈ zs → nameS n = true := fun n hn => List.all_eq_true.mp hz n hn
  have sm : ∀ e, okSm zs e → nmSm e := fun e he => by
    cases e with
    | non => trivial
    | word z => exact he
    | name n => exact nm n he
  cases r with
  | lt n e => exact ⟨nm n h.1, sm e h.2⟩
  | se n e => exact ⟨nm n h.1, sm e h.2⟩
  | dd e => exact sm e h
  | pr e => exact sm e h
/-- the rows' block as data, and what is asked of it -/
def blkB (rs : List Rw) : List B := foldB ((chunksR rs).map (·.map Rw.b))
theorem blk_ok {rs : List Rw} (hn : rs.length ≤ 60) (h : ∀ r ∈ rs, nmRw r) : pdB (.tup (blkB rs)) = true ∧ szB (.tup (blkB rs)) ≤ 100000 ∧ good plN ⟨"block", .tup (blkB rs), 0, false, 0⟩ = true ∧ ∀ s, SL.Dr s (.tup (blkB rs)) (.tup (foldC (chunks (rs.map Rw.u)))) := by
  have hl : (chunksR rs).length ≤ 6 := by rw [chunks_len]; omega
  refine ⟨pd_fold fun c hc x hx => h x ((chunks_mem hc).2 x hx), ?_, good_fold (chunksR rs) 0 (by omega) (fun c hc => ⟨(chunks_mem hc).1, fun x hx => h x ((chunks_mem hc).2 x hx)⟩) (by decide), fun s => ?_⟩
  · have := sz_fold (chunksR rs)
    rw [flat_chunks] at this
    show szB (.tup (foldB ((chunksR rs).map (·.map Rw.b)))) ≤ 100000
    rw [szB]
    omega
  · rw [chunks_map]
    exact dr_tupI (drs_fold (chunksR rs))
/-- the machine made for the rows' block runs to its end -/
theorem run_rows {k : Ks} {x : Nat} {s : SL.Sto} (hx : x < s.length) {rs : List Rw} (hn : rs.length ≤ 60) : ∃ n s1 j s' m', SetlR k x n (iniS k s x (foldC (chunks (rs.map Rw.u)))) s1 ∧ RunR k x j s1 s' ∧ MacAt k s' x m' ∧ m'.pr = s.length + 7 ∧ m'.ending = endOf (runR [] [] rs).2 ∧ s'[s.length + 7]? = some (SL.Ob.lst ((runR [] [] rs).1.map SL.U.str)) ∧
    ∀ i o, i < s.length → i ≠ x → NotPast o → (∀ C ds, o ≠ SL.Ob.ins C lvlFs ds) → s[i]? = some o → s'[i]? = some o := by
  have h := run_all (k := k) hx (chunksR rs) (by rw [flat_chunks, chunks_len]; omega)
  rw [flat_chunks] at h
  rw [chunks_map]
  exact h
/-- rows one after another, as the law does them: what the names hold, the lines, whether none has raised -/
def runS (h : Hd) (ls : List Str) : List Rw → Hd × List Str × Bool
  | [] => (h, ls, true)
  | r :: rs => match doR h ls r with
    | none => (h, ls, false)
    | some (h', ls') => runS h' ls' rs
theorem runR_eq : ∀ {rs : List Rw} {h : Hd} {ls : List Str}, runR h ls rs = (runS h ls rs).2
  | [], _, _ => rfl
  | r :: rs, h, ls => by
    rw [runR, runS]
    cases e : doR h ls r with
    | none => rfl
    | some z => exact runR_eq
def runT (q : Hd × List Str × Bool) (r : Rw) : Hd × List Str × Bool := if q.2.2 = true then (match doR q.1 q.2.1 r with
  | none => (q.1, q.2.1, false)
  | some (h', ls') => (h', ls', true)) else q
theorem runS_snoc : ∀ {rs : List Rw} {r : Rw} {h : Hd} {ls : List Str}, runS h ls (rs ++ [r]) = runT (runS h ls rs) r
  | [], r, h, ls => by
    rw [List.nil_append, runS, runS]
    unfold runT
    rw [if_pos rfl]
    cases doR h ls r with
    | none => rfl
    | some z => rfl
  | q :: rs, r, h, ls => by
    rw [List.cons_append, runS, runS]
    cases e : doR h ls q with
    | none => rfl
    | some z => exact runS_snoc
theorem hput_len {h : Hd} {n z : Str} : (hput h n z).length ≤ h.length + 1 := by
  unfold hput
  split
  · rw [List.length_map]; exact Nat.le_succ _
  · rw [List.length_append]; exact Nat.le_refl _
theorem doR_hlen {h h' : Hd} {ls ls' : List Str} {r : Rw} (e : doR h ls r = some (h', ls')) : h'.length ≤ h.length + 1 := by
  cases ez : txtOf h r.e with
  | none => cases r <;> (dsimp only [Rw.e] at ez; dsimp only [doR] at e; rw [ez] at e; cases e)
  | some z =>
    cases r with
    | lt n x => dsimp only [Rw.e] at ez; dsimp only [doR] at e; rw [ez] at e; cases e; exact hput_len
    | se n x =>
      dsimp only [Rw.e] at ez
      dsimp only [doR] at e
      rw [ez] at e
      dsimp only at e
      split at e
      · cases e; exact hput_len
      · cases e
    | dd x => dsimp only [Rw.e] at ez; dsimp only [doR] at e; rw [ez] at e; cases e; exact Nat.le_succ _
    | pr x => dsimp only [Rw.e] at ez; dsimp only [doR] at e; rw [ez] at e; cases e; exact Nat.le_succ _
theorem runT_len {q : Hd × List Str × Bool} {r : Rw} {n : Nat} (h1 : q.1.length ≤ n) (h2 : q.2.1.length ≤ n) : (runT q r).1.length ≤ n + 1 ∧ (runT q r).2.1.length ≤ n + 1 := by
  unfold runT
  split
  · cases e : doR q.1 q.2.1 r with
    | none => exact ⟨Nat.le_succ_of_le h1, Nat.le_succ_of_le h2⟩
    | some z =>
      have a := doR_hlen (h' := z.1) (ls' := z.2) e
      have b := doR_len (h' := z.1) (ls' := z.2) e
      exact ⟨by show z.1.length ≤ n + 1; omega, by show z.2.length ≤ n + 1; omega⟩
  · exact ⟨Nat.le_succ_of_le h1, Nat.le_succ_of_le h2⟩
end SF
set_option Elab.async false
set_option linter.all false
set_option maxRecDepth 100000
set_option maxHeartbeats 4000000
/-! k19: the law -/
namespace SF
open PySem PySem.Spec PyProof.Rows L2 G0 SL
open C8 (Cal Mak Met pe_c pe_mk pe_mt pe_mt0 pe_gc)
def spLaw (K : PySem.W.Frag) : Sp := fun vs H Q _ => ∃ (a : Addr) (ns : List Int), vs = [.ref a] ∧ SqL K H a (ns.map V.int) ∧ ns.length ≤ 63 ∧ ∀ H', Q (.bl true) H'
section
variable {K : PySem.W.Frag} {H : Hp} {σ : L2.St}
/-- where a law starts: the store holds the state of the draws -/
theorem run0D {H0 : Hp} {st cl : Addr} {ns : List Int} {Q : VK} {ts : TS} (Γ : List (Option U)) (hD : D2 H st cl ns) (hl : Γ.length = σ.length) (h : ∀ (i : Nat) (u : U), Γ[i]? = some (some u) → u = .rf 0 ∧ σ[i]? = some (some (.ref st))) (R : Sto → U → Prop)
    (k : ∀ s : Sto, s.length = 2 → Dw s → suS K ts s Γ ⟨fun s => fun _ => R s .non, R, fun _ _ => False, fun _ _ => False⟩) (q : ∀ s u v H', R s u → FinU K ⟨[st, cl], H⟩ s H' u v → Q v H') : ts { nx := fun _ H' => Q .non H', rt := Q } σ H := by
  obtain ⟨i, held, seed, left, f1, f2, f3, f4, f5, f6⟩ := hD.ex
  have ok : SOk K [st, cl] [.lst [.rf 1, .int i, .int held, .int seed, .int left], .lst (ns.map U.int)] H := ⟨rfl, by simp; exact Ne.symm f3, fun n b a h1 h2 => by
    match n with
    | 0 =>
      cases h1
      cases h2
      exact ⟨_, f1, ru_cons.mpr ⟨_, _, rfl, ru_rf.mpr ⟨cl, rfl, rfl⟩, ru_cons.mpr ⟨_, _, rfl, ru_int.mpr rfl, ru_cons.mpr ⟨_, _, rfl, ru_int.mpr rfl, ru_cons.mpr ⟨_, _, rfl, ru_int.mpr rfl, ru_cons.mpr ⟨_, _, rfl, ru_int.mpr rfl, ru_nil.mpr rfl⟩⟩⟩⟩⟩⟩
    | 1 =>
      cases h1
      cases h2
      exact ⟨_, f2, ru_ints.mpr rfl⟩
    | n + 2 => simp at h1⟩
  refine k _ rfl ⟨ns, i, held, seed, left, rfl, rfl, f4, f5, f6⟩ ⟨[st, cl], H⟩ [st, cl] σ H _ ⟨hl, fun j u hj => ?_, ok, Ext.refl⟩ (fun α' s' Γ' σ' H' r E' => q s' .non .non H' r ⟨α', E'.ok, E'.ext, ru_non.mpr rfl⟩) (fun s' u v H' r f => q s' u v H' r f) (fun _ _ _ _ _ f _ => f.elim) (fun _ _ _ _ _ f _ => f.elim)
  obtain ⟨rfl, h2⟩ := h j u hj
  exact ⟨_, h2, ru_rf.mpr ⟨st, rfl, rfl⟩⟩
end
def endL (b : Bool) : List Str := if b = true then ["done"] else ["raised", "noname"]
theorem endL_eq (b : Bool) : endOf b = .tup ((endL b).map U.str) := by cases b <;> rfl
/-- what the law holds behind the rows rs: words at 2, names at 3, rows at 4, lines at 5 -/
structure LI (zs : List Str) (s : Sto) (rs : List Rw) : Prop where
  dw : Dw s
  h2 : s[2]? = some (Ob.lst (zs.map U.str))
  h3 : s[3]? = some (Ob.dct (hk (runS [] [] rs).1) (hv (runS [] [] rs).1))
  h4 : s[4]? = some (Ob.lst (rs.map Rw.u))
  h5 : s[5]? = some (Ob.lst ((runS [] [] rs).2.1.map U.str))
  ok : ∀ r ∈ rs, okRw zs r
  hl : (runS [] [] rs).1.length ≤ rs.length ∧ (runS [] [] rs).2.1.length ≤ rs.length
theorem dw_kx {X : Nat → Prop} {s s' : Sto} (k : Kx X s s') (h0 : ¬ X 0) (h1 : ¬ X 1) (h : Dw s) : Dw s' := by
  obtain ⟨ns, i, held, seed, left, a, b, r⟩ := h
  exact ⟨ns, i, held, seed, left, k.kp _ _ h0 a, k.kp _ _ h1 b, r⟩
section
variable {P : Program} {w : World} {K : PySem.W.Frag} {mg : Str → Option Value} {base : Heap} {CP : Addr}
local macro_rules | `(tactic| walk_at "rd1") => `(tactic| first
  | (with_reducible refine RD.seq ?_) | (with_reducible refine RD.next ?_) | (with_reducible refine RD.ifS ?_) | (with_reducible refine RD.ret ?_) | (with_reducible refine RD.retN ?_) | (with_reducible refine RD.drop ?_) | (with_reducible refine RD.asg ?_) | (with_reducible refine RD.gname ?_)
  | ((with_reducible apply RD.var); exact rfl) | (with_reducible refine RD.c_ ?_) | (with_reducible refine RD.op ?_) | (with_reducible refine RD.un ?_) | (with_reducible refine RD.cb ?_) | (with_reducible refine RD.cons ?_) | (with_reducible refine RD.nil ?_) | (with_reducible refine RD.tup ?_) | (with_reducible refine RD.lst ?_)
  | (with_reducible refine RD.B_ ?_) | (with_reducible refine RD.test ?_) | (with_reducible refine RD.exB ?_) | (with_reducible refine RD.exI ?_) | (with_reducible refine RD.and_ ?_) | (with_reducible refine RD.or_ ?_) | (with_reducible refine RD.not_ ?_) | (with_reducible refine RD.andV ?_) | (with_reducible refine RD.orV ?_) | (with_reducible refine RD.notV ?_) | (with_reducible refine RD.if_ ?_)
  | (with_reducible refine RD.ifT ?_) | (with_reducible refine RD.ifF ?_) | (with_reducible refine RD.ifNT ?_) | (with_reducible refine RD.ifNF ?_) | (with_reducible refine RD.yes ?_) | (with_reducible refine RD.sl ?_) | (with_reducible refine RD.noPart ?_) | (with_reducible refine RD.part ?_) | (with_reducible refine RD.i0 ?_) | (with_reducible refine RD.eqS ?_) | (with_reducible refine RD.eqI ?_) | (with_reducible refine RD.neS ?_) | (with_reducible refine RD.neI ?_)
  | (with_reducible refine RD.isN_n ?_) | (with_reducible refine RD.isN_r ?_) | (with_reducible refine RD.isN_s ?_) | (with_reducible refine RD.isN_b ?_) | (with_reducible refine RD.isN_i ?_) | (with_reducible refine RD.notN_n ?_) | (with_reducible refine RD.notN_r ?_) | (with_reducible refine RD.notN_s ?_)
  | (with_reducible refine RD.call ?_) | (with_reducible refine RD.make ?_) | (with_reducible refine RD.gcons ?_) | (with_reducible refine RD.gnil ?_) | (with_reducible refine RD.bm ?_) | (with_reducible refine RD.bm0 ?_) | (with_reducible refine RD.dget ?_) | (with_reducible refine RD.din ?_) | (with_reducible refine RD.tfld ?_) | (with_reducible refine RD.then_ ?_) | (with_reducible refine RD.chain ?_) | (with_reducible refine RD.itup ?_) | (with_reducible refine RD.ikeys ?_) | (with_reducible refine RD.ivals ?_) | (with_reducible refine RD.iitems ?_) | (with_reducible refine RD.lset ?_) | (with_reducible refine RD.ilist ?_) | ((with_reducible apply RD.aug); exact rfl))
local macro_rules | `(tactic| walk_at "rd") => `(tactic| repeat walk_at "rd1")
set_option synthInstance.maxSize 100000
set_option synthInstance.maxHeartbeats 0
local macro_rules | `(tactic| walk_at "bvg2") => `(tactic| first
  | ((with_reducible refine And.intro (show List.length _ ≤ sizeLine from ?hz) ?_); (case hz => exact Nat.le_of_ble_eq_true rfl)) | ((with_reducible refine And.intro (show List.length _ < sizeLine from ?hz) ?_); (case hz => exact Nat.le_of_ble_eq_true rfl))
  | ((with_reducible refine RD.ifDT ?hd ?_); (case hd => first | decide +kernel | exact rfl)) | ((with_reducible refine RD.ifDF ?hd ?_); (case hd => first | decide +kernel | exact rfl))
  | ((with_reducible refine BV.catT ?hz ?_); (case hz => exact Nat.le_of_ble_eq_true rfl)) | ((with_reducible refine BV.catL ?hz ?_); (case hz => exact Nat.le_of_ble_eq_true rfl))
  | (with_reducible refine BV.ofN (BV.dNew ?_))
  | ((with_reducible apply BV.gtup); exact rfl)
  | ((with_reducible refine BV.vname ?hh ?_); (case hh => decide)) | ((with_reducible apply BV.vtup); exact rfl))
local macro_rules | `(tactic| walk_at "bvg1") => `(tactic| first
  | (with_reducible refine BV.strJoin ?_)
  | (with_reducible first | refine BV.i0 ?_ | refine BV.i0b ?_)
  | ((with_reducible apply BV.ixT); exact rfl) | (with_reducible refine BV.ixT BV.at0' ?_) | ((with_reducible apply BV.ixL); exact rfl)
  | ((with_reducible apply BV.lenO); exact rfl)
  | ((with_reducible refine BV.isi ?hh ?hp ?_); (case hh => decide +kernel); (case hp => exact rfl)) | ((with_reducible refine BV.isN ?hp ?_); (case hp => exact rfl)) | ((with_reducible refine BV.notN ?hp ?_); (case hp => exact rfl)))
local macro_rules | `(tactic| walk_at "bvg0") => `(tactic| first
  | ((with_reducible apply BV.var); exact rfl)
  | ((with_reducible apply BV.retO); exact rfl) | (with_reducible refine BV.ret ?_) | ((with_reducible apply BV.asgPop); exact rfl) | (with_reducible refine BV.asg ?_) | ((with_reducible apply BV.asgPopG); exact rfl) | (with_reducible refine BV.asgG ?_)
  | ((with_reducible apply BV.append); exact rfl) | ((with_reducible apply BV.extend); exact rfl) | ((with_reducible apply BV.augI); exact rfl) | ((with_reducible apply BV.truO); exact rfl) | (with_reducible refine BV.dropE ?_)
  | ((with_reducible refine BV.isiT2 ?h1 ?h2 ?_); (case h1 => decide +kernel); (case h2 => decide +kernel)) | ((with_reducible refine And.intro (show isPlainB _ = true from ?hz) ?_); (case hz => exact rfl)) | ((with_reducible refine BV.listVals ?hu ?_); (case hu => trivial)))
local macro_rules | `(tactic| walk_at "bvgu") => `(tactic| first
  | ((with_reducible apply SL.ixT); exact rfl) | (with_reducible refine SL.ixT SL.at0U ?_) | (with_reducible refine SL.ixT SL.at1U ?_)
  | ((with_reducible apply SL.fldAt); (case hs => assumption); (case kc => assumption); (case hf => decide); (case hu => exact rfl))
  | ((with_reducible apply SL.methAt); (case hs => assumption); (case hm => decide)))
local macro_rules | `(tactic| walk_at "bv1") => `(tactic| first | (with_reducible refine BVSt.mp ?_) | walk_at "bvg0" | walk_at "bvg1" | walk_at "bvg2")
local macro_rules | `(tactic| walk_at "bv") => `(tactic| repeat first | (with_reducible refine bvRun ?_) | (with_reducible refine BVSt.mp ?_) | walk_at "bvg0" | walk_at "bvg1" | walk_at "bvg2")
local macro_rules | `(tactic| walk_at "bu") => `(tactic| repeat first | (with_reducible refine bvRun ?_) | (with_reducible refine BVSt.mp ?_) | walk_at "bvgu" | walk_at "bvg0" | walk_at "bvg1" | walk_at "bvg2")
theorem sc_law : FnScope ["_law_script", "_law_state", "_law_many", "_law_names", "_law_held", "_law_rows", "_law_lines", "_law_end", "_law_k", "_law_row_here", "_law_program", "_law_actual"] ["_law_script"] (defScope (topS 83)) := ⟨rfl, rfl, rfl, by decide +kernel, rfl, by decide +kernel, by decide +kernel⟩
theorem ok_law (T : TxtS K mg CP) {k : Ks} (c__law_begin : Cal P w K mg base 1 "_law_begin" (spBegin K) []) (c__law_draw : Cal P w K mg base 2 "_law_draw" spDraw2 []) (c__law_words : Cal P w K mg base 4 "_law_words" spWords []) (c__law_row : Cal P w K mg base 5 "_law_row" (SpU K WRw) []) (c__law_do : Cal P w K mg base 2 "_law_do" (SpU K WDo) []) (c__law_fold : Cal P w K mg base 1 "_law_fold" (SpU K WFold) []) (c__law_told : Cal P w K mg base 1 "_law_told" (SpU K WToldL) []) (c_Program : Mak P w K mg base 7 "Program" CP (SpU K (WPrg CP)) []) (c_run : Cal P w K mg base 9 "run" (SpU K (WRun k CP)) [.int 20000])
    {f : Addr} {fd : FuncData} (F : Fun K "law" "law" (topS 83) f fd) : FnOk P w K mg base CX0 10 f fd ["_law_script"] (spLaw K) := by
  refine F.ok sc_law (fun vs H Q E h => ?_) (fun cdv A outer s H vs Q E hr h => ?_)
  · obtain ⟨a, ns, rfl, _⟩ := h
    rfl
  have hu := hu_of hr
  obtain ⟨a, ns, rfl, hS, hl, q⟩ := h
  refine ⟨_, (pss_cons (ps_set (i := 1) sc_law.nd rfl (Or.inl rfl) (pe_c c__law_begin hr (by decide) (by rfl) (pa_cons (pv 0) pa_nil)))
      (pss_cons (ps_set (i := 2) sc_law.nd rfl (Or.inl rfl) (pe_c c__law_draw hr (by decide) (by rfl) (pa_cons (pv 1) (pa_cons pe_int pa_nil))))
      (pss_cons (ps_set (i := 3) sc_law.nd rfl (Or.inl rfl) (pe_c c__law_words hr (by decide) (by rfl) (pa_cons (pv 1) (pa_cons (pe_op op_add pe_int (pe_c c__law_draw hr (by decide) (by rfl) (pa_cons (pv 1) (pa_cons pe_int pa_nil)))) pa_nil))))
      (pss_cons (ps_set (i := 4) sc_law.nd rfl (Or.inl rfl) pe_dnewK)
      (pss_cons (ps_set (i := 5) sc_law.nd rfl (Or.inl rfl) (pe_lst pa_nil))
      (pss_cons (ps_set (i := 6) sc_law.nd rfl (Or.inl rfl) (pe_lst pa_nil))
      (pss_cons (ps_set (i := 7) sc_law.nd rfl (Or.inl rfl) (pe_tup (pa_cons pe_str pa_nil)))
      (pss_cons (ps_for PassesOwn.never rfl (pi_range1 (by rfl) T.b_range (pa_cons (pv 2) pa_nil)) (pg_name (i := 8) sc_law.nd rfl (Or.inl rfl)) (pss_cons (ps_set (i := 9) sc_law.nd rfl (Or.inl rfl) (pe_c c__law_row hr (by decide) (by rfl) (pa_cons (pv 1) (pa_cons (pv 3) (pa_cons (pv 4) pa_nil)))))
      (pss_cons (ps_expr (pe_bm PySem.F.plainAttrs_list PySem.F.slot_list_append PySem.F.type_list_append mt_append (pv 5) (pa_cons (pv 9) pa_nil)))
      (pss_one (ps_if (pt_cmpR (op_eqD hr.units) (pv 7) (pe_tup (pa_cons pe_str pa_nil)) (nomark _)) (pss_one (ps_set (i := 7) sc_law.nd rfl (Or.inl rfl) (pe_c c__law_do hr (by decide) (by rfl) (pa_cons (pv 9) (pa_cons (pv 4) (pa_cons (pv 6) pa_nil)))))) pss_nil)))))
      (pss_cons (ps_set (i := 10) sc_law.nd rfl (Or.inl rfl) (pe_mk c_Program hr (by decide) (by rfl) (pa_cons pe_dnewK (pa_cons (pe_c c__law_fold hr (by decide) (by rfl) (pa_cons (pv 5) pa_nil)) pa_nil))))
      (pss_cons (ps_set (i := 11) sc_law.nd rfl (Or.inl rfl) (pe_c c_run hr (by decide) (by rfl) (pa_cons (pv 10) pa_nil)))
      (pss_cons (ps_if (pt_not (pt_val (pe_c c__law_told hr (by decide) (by rfl) (pa_cons (pv 11) (pa_cons (pv 6) (pa_cons (pv 7) pa_nil)))))) (pss_one (ps_ret pe_bl)) pss_nil)
      (pss_cons (ps_expr (pe_bm PySem.F.plainAttrs_list PySem.F.slot_list_append PySem.F.type_list_append mt_append (pe_ix (r := rIxT K) ix_tup (pv 11) pe_int (fun _ _ => rfl)) (pa_cons pe_str pa_nil)))
      (pss_one (ps_ret (pe_c c__law_told hr (by decide) (by rfl) (pa_cons (pe_c c_run hr (by decide) (by rfl) (pa_cons (pv 10) pa_nil)) (pa_cons (pv 6) (pa_cons (pv 7) pa_nil)))))))))))))))))), ?_⟩
  refine RD.seq (RD.asg (RD.call (RD.cons (RD.var rfl (RD.nil ⟨a, ns, rfl, hS, hl, fun H1 st cl s1 n1 n2 hD => RD.gname ?_⟩)))))
  refine run0D (H0 := H1) (K := K) [none, some (.rf 0), none, none, none, none, none, none, none, none, none, none] hD rfl (fun i u hc => ?_) (fun s u => u = .bl true) (fun s hs0 hd => ?_) (fun s u v H' e hf => ?_)
  · match i with
    | 0 => cases hc
    | 1 => cases hc; exact ⟨rfl, rfl⟩
    | i + 2 =>
      have : ∀ j : Nat, (List.replicate 10 (none : Option U))[j]? ≠ some (some u) := fun j hj => by
        have := List.eq_of_mem_replicate (List.mem_of_getElem? hj)
        cases this
      exact absurd hc (this i)
  · try dsimp only [cxOf, Cx.nox]
    walk_at "bu"
    refine ⟨61, rfl, hd, by decide, by decide, fun many o1 hmany D1 => ?_⟩
    have l1 : (s.set 0 o1).length = 2 := by rw [List.length_set]; exact hs0
    generalize s.set 0 o1 = s1 at D1 l1
    walk_at "bu"
    refine callWds ?_
    walk_at "bu"
    refine ⟨6, rfl, D1, by decide, by decide, fun nn o2 hnn D2 => ?_⟩
    have l2 : (s1.set 0 o2).length = 2 := by rw [List.length_set]; exact l1
    generalize s1.set 0 o2 = s2 at D2 l2
    walk_at "bu"
    refine ⟨1 + nn, by rw [show ((1 + nn : Nat) : Int) = 1 + (nn : Int) by omega], by omega, D2, fun zs o3 hzl hza D3 => ?_⟩
    have l3 : (s2.set 0 o3).length = 2 := by rw [List.length_set]; exact l2
    have l20 : s2.length = 2 := l2
    generalize s2.set 0 o3 = s3 at D3 l3
    rw [l20]
    have D4 := dw_app (l := [Ob.lst (zs.map U.str)]) D3
    have hz4 : (s3 ++ [Ob.lst (zs.map U.str)])[2]? = some (Ob.lst (zs.map U.str)) := by have := newAt (s := s3) (b := Ob.lst (zs.map U.str)); rw [l3] at this; exact this
    have l4 : (s3 ++ [Ob.lst (zs.map U.str)]).length = 3 := by rw [List.length_append, l3]; rfl
    generalize s3 ++ [Ob.lst (zs.map U.str)] = s4 at D4 hz4 l4
    walk_at "bu"
    have z0 : 0 < zs.length := by omega
    have z6 : zs.length ≤ 6 := by omega
    have e5 : (s4 ++ [Ob.dct [] []] ++ [Ob.lst []] ++ [Ob.lst []])[5]? = some (Ob.lst []) := by have := newAt (s := s4 ++ [Ob.dct [] []] ++ [Ob.lst []]) (b := Ob.lst []); simpa [l4] using this
    have I0 : LI zs (s4 ++ [Ob.dct [] []] ++ [Ob.lst []] ++ [Ob.lst []]) [] := ⟨dw_app (dw_app (dw_app D4)), ((Kx.app (X := fun _ => False)).trans (Kx.app.trans Kx.app)).kp 2 _ id hz4, by simp [List.getElem?_append, l4, runS, hk, hv], by simp [List.getElem?_append, l4], by simp [List.getElem?_append, l4, runS], fun r hr => (by cases hr), ⟨Nat.le_refl _, Nat.le_refl _⟩⟩
    rw [List.length_append, List.length_append, List.length_append, l4]
    generalize s4 ++ [Ob.dct [] []] ++ [Ob.lst []] ++ [Ob.lst []] = s5 at I0
    refine SL.forI (SL.wrng1 ?_)
    walk_at "bu"
    refine ⟨many, rfl, by omega, ?_⟩
    refine ⟨fun j s' g => ∃ rs, rs.length = j ∧ LI zs s' rs ∧ ∃ c d, g = [none, some (.rf 0), some (.int many), some (.rf 2), some (.rf 3), some (.rf 4), some (.rf 5), some (endOf (runS [] [] rs).2.2), c, d, none, none], ⟨[], rfl, I0, none, none, rfl⟩, fun _ _ _ _ => trivial, fun j y s' g hy hI => ?_, fun s' g hI => ?_⟩
    · obtain ⟨rs, hrs, I, c, d, rfl⟩ := hI
      have hj : j < many := by have := (List.getElem?_eq_some_iff.mp hy).1; rwa [rngU_len] at this
      rw [rngU_at hj] at hy
      obtain rfl := (Option.some.inj hy).symm
      walk_at "bu"
      refine ⟨2, 3, zs, (runS [] [] rs).1, rfl, ⟨I.dw, by decide, by decide, I.h2, z0, z6, I.h3⟩, fun s6 r hr k6 D6 => ?_⟩
      have h2 := k6.kp 2 _ (by decide) I.h2
      have h3 := k6.kp 3 _ (by decide) I.h3
      have h4 := k6.kp 4 _ (by decide) I.h4
      have h5 := k6.kp 5 _ (by decide) I.h5
      walk_at "bu"
      refine SL.lstAt_and h4 ?_
      walk_at "bu"
      refine SL.append h4 ⟨by rw [List.length_map]; exact Nat.lt_of_le_of_lt (show rs.length ≤ 60 by omega) (by decide), ?_⟩
      walk_at "bu"
      have k7 : Kx (fun i => i = 4) s6 (s6.set 4 (Ob.lst (rs.map Rw.u ++ [r.u]))) := Kx.set rfl
      have D7 := dw_kx k7 (by decide) (by decide) D6
      have h2 := k7.kp 2 _ (by decide) h2
      have h3 := k7.kp 3 _ (by decide) h3
      have h5 := k7.kp 5 _ (by decide) h5
      have h4 : (s6.set 4 (Ob.lst (rs.map Rw.u ++ [r.u])))[4]? = some (Ob.lst ((rs ++ [r]).map Rw.u)) := by rw [List.getElem?_set_self (List.getElem?_eq_some_iff.mp h4).1, List.map_append]; rfl
      have hok : ∀ q ∈ rs ++ [r], okRw zs q := fun q hq => by
        rcases List.mem_append.mp hq with z | z
        · exact I.ok q z
        · rw [List.mem_singleton.mp z]; exact hr
      have hll := runT_len (r := r) I.hl.1 I.hl.2
      rw [← runS_snoc] at hll
      have hln : (rs ++ [r]).length = j + 1 := by rw [List.length_append, hrs]; rfl
      generalize s6.set 4 (Ob.lst (rs.map Rw.u ++ [r.u])) = s7 at D7 h2 h3 h4 h5
      cases ee : (runS [] [] rs).2.2 with
      | true =>
        refine eqDD (b := .tup [.str "done"]) (c := .tup [.str "done"]) (dr_tupI (drs_cons dr_str drs_nil)) (dr_tupI (drs_cons dr_str drs_nil)) (by decide +kernel) (by decide +kernel) ?_
        rw [show PyData.eqv (BV.py (.tup [.str "done"])) (BV.py (.tup [.str "done"])) = true by decide +kernel]
        walk_at "bu"
        refine ⟨r, 3, 5, (runS [] [] rs).1, (runS [] [] rs).2.1, rfl, h3, h5, by have := I.hl.1; omega, by have := I.hl.2; omega, fun s8 hd k8 => ?_, fun s8 h' ls' hd k8 g3 g5 => ?_⟩
        · have es : runS [] [] (rs ++ [r]) = ((runS [] [] rs).1, (runS [] [] rs).2.1, false) := by rw [runS_snoc]; unfold runT; rw [if_pos ee, hd]
          walk_at "bu"
          refine ⟨rs ++ [r], hln, ⟨dw_kx k8 (by decide) (by decide) D7, k8.kp 2 _ (by decide) h2, by rw [es]; exact k8.kp 3 _ (by decide) h3, k8.kp 4 _ (by decide) h4, by rw [es]; exact k8.kp 5 _ (by decide) h5, hok, by rw [hln, ← hrs]; exact hll⟩, some (.int (0 + (j : Nat))), some r.u, ?_⟩
          rw [es]
          rfl
        · have es : runS [] [] (rs ++ [r]) = (h', ls', true) := by rw [runS_snoc]; unfold runT; rw [if_pos ee, hd]
          walk_at "bu"
          refine ⟨rs ++ [r], hln, ⟨dw_kx k8 (by decide) (by decide) D7, k8.kp 2 _ (by decide) h2, by rw [es]; exact g3, k8.kp 4 _ (by decide) h4, by rw [es]; exact g5, hok, by rw [hln, ← hrs]; exact hll⟩, some (.int (0 + (j : Nat))), some r.u, ?_⟩
          rw [es]
          rfl
      | false =>
        have es : runS [] [] (rs ++ [r]) = runS [] [] rs := by rw [runS_snoc]; unfold runT; rw [if_neg (by rw [ee]; exact Bool.false_ne_true)]
        refine eqDD (b := .tup [.str "raised", .str "noname"]) (c := .tup [.str "done"]) (dr_tupI (drs_cons dr_str (drs_cons dr_str drs_nil))) (dr_tupI (drs_cons dr_str drs_nil)) (by decide +kernel) (by decide +kernel) ?_
        rw [show PyData.eqv (BV.py (.tup [.str "raised", .str "noname"])) (BV.py (.tup [.str "done"])) = false by decide +kernel]
        walk_at "bu"
        refine ⟨rs ++ [r], hln, ⟨D7, h2, by rw [es]; exact h3, h4, by rw [es]; exact h5, hok, by rw [hln, ← hrs]; exact hll⟩, some (.int (0 + (j : Nat))), some r.u, ?_⟩
        rw [es, ee]
        rfl
    · obtain ⟨rs, hrs, I, c, d, rfl⟩ := hI
      rw [rngU_len] at hrs
      walk_at "bu"
      have r60 : rs.length ≤ 60 := by omega
      obtain ⟨b1, b2, b3, b4⟩ := blk_ok r60 (fun r hr => okRw_nm hza (I.ok r hr))
      have k9 : Kx (fun _ => False) s' (s' ++ [Ob.dct [] []]) := Kx.app
      have hd9 : (s' ++ [Ob.dct [] []])[s'.length]? = some (Ob.dct [] []) := newAt
      refine ⟨4, rs.map Rw.u, rfl, k9.kp 4 _ id I.h4, by rw [List.length_map]; exact r60, fun s10 k10 => ?_⟩
      generalize s'.length = dn at hd9
      have hd10 : s10[dn]? = some (Ob.dct [] []) := k10.kp dn _ id hd9
      have k10 := k9.trans k10
      walk_at "bu"
      refine ⟨s10.length, dn, .tup (blkB rs), _, rfl, newAt, (Kx.app (X := fun _ => False)).kp _ _ id hd10, b4 _, b1, b2, b3, rfl, ?_⟩
      rw [set_new, List.length_append, List.length_singleton]
      have kA : Kx (fun _ => False) s10 (s10 ++ [Ob.ins CP prgFs [.rf (s10.length + 1), .tup (foldC (chunks (rs.map Rw.u)))]] ++ [Ob.dct [] []]) := Kx.app.trans Kx.app
      have hp : PrgAt CP (s10 ++ [Ob.ins CP prgFs [.rf (s10.length + 1), .tup (foldC (chunks (rs.map Rw.u)))]] ++ [Ob.dct [] []]) s10.length (s10.length + 1) (foldC (chunks (rs.map Rw.u))) := ⟨(Kx.app (X := fun _ => False)).kp _ _ id newAt, by have := newAt (s := s10 ++ [Ob.ins CP prgFs [.rf (s10.length + 1), .tup (foldC (chunks (rs.map Rw.u)))]]) (b := Ob.dct [] []); rw [List.length_append] at this; exact this⟩
      generalize s10 ++ [Ob.ins CP prgFs [.rf (s10.length + 1), .tup (foldC (chunks (rs.map Rw.u)))]] ++ [Ob.dct [] []] = s11 at kA hp
      generalize s10.length = pn at hp
      have k11 := k10.trans kA
      have h5 := k11.kp 5 _ id I.h5
      walk_at "bu"
      refine SL.callD ?_
      walk_at "bu"
      obtain ⟨n, s12, j, s13, m, q1, q2, q3, q4, q5, q6, q7⟩ := run_rows (k := k) (s := s11 ++ [Ob.ins k.CM [] []]) (x := s11.length) (by simp) r60
      refine ⟨pn, pn + 1, _, n, j, s12, s13, m, rfl, hp, q1, q2, q3, ?_⟩
      rw [runR_eq] at q5 q6
      have lt : ∀ {i : Nat} {o : Ob}, s11[i]? = some o → i < s11.length := fun h => (List.getElem?_eq_some_iff.mp h).1
      have old : ∀ {i : Nat} {o : Ob}, s11[i]? = some o → NotPast o → (∀ C ds, o ≠ Ob.ins C lvlFs ds) → s13[i]? = some o := fun {i o} h a b => q7 i o (by rw [List.length_append]; have := lt h; omega) (Nat.ne_of_lt (lt h)) a b ((Kx.app (X := fun _ => False)).kp _ _ id h)
      have h5' := old h5 np_strs (fun _ _ e => by cases e)
      have hp1 := old hp.1 np_ins (ne_fs (C' := CP) (by decide))
      have hp2 := old hp.2 (fun _ _ _ e => by cases e) (fun _ _ e => by cases e)
      have l5 := lt h5
      rw [← q4] at q6
      have pr5 : m.pr ≠ 5 := by rw [q4, List.length_append]; omega
      have le : (runS [] [] rs).2.1.length < 1000 := by have := I.hl.2; omega
      have le3 : (endL (runS [] [] rs).2.2).length ≤ 3 := by cases (runS [] [] rs).2.2 <;> decide
      rw [q5, endL_eq]
      clear q1 q2 q7
      walk_at "bu"
      refine ⟨m.pr, 5, (runS [] [] rs).2.1, endL (runS [] [] rs).2.2, rfl, q6, h5', le, le3, ?_⟩
      walk_at "bu"
      refine SL.lstAt_and q6 ?_
      walk_at "bu"
      refine SL.append q6 ⟨by rw [List.length_map]; exact Nat.lt_trans le (by decide), ?_⟩
      have kp : ∀ {i : Nat} {o : Ob}, s13[i]? = some o → i ≠ m.pr → (s13.set m.pr (Ob.lst ((runS [] [] rs).2.1.map U.str ++ [.str "more"])))[i]? = some o := fun {i o} h n => by
        rw [List.getElem?_set_ne n.symm]
        exact h
      have h5 := kp h5' pr5.symm
      have hp : PrgAt CP (s13.set m.pr (Ob.lst ((runS [] [] rs).2.1.map U.str ++ [.str "more"]))) pn (pn + 1) (foldC (chunks (rs.map Rw.u))) := ⟨kp hp1 (fun e => by rw [e, q6] at hp1; cases hp1), kp hp2 (fun e => by rw [e, q6] at hp2; cases hp2)⟩
      generalize s13.set m.pr (Ob.lst ((runS [] [] rs).2.1.map U.str ++ [.str "more"])) = s14 at h5 hp
      walk_at "bu"
      refine SL.callD ?_
      walk_at "bu"
      obtain ⟨n, s15, j, s16, m2, q1, q2, q3, q4, q5, q6, q7⟩ := run_rows (k := k) (s := s14 ++ [Ob.ins k.CM [] []]) (x := s14.length) (by simp) r60
      refine ⟨pn, pn + 1, _, n, j, s15, s16, m2, rfl, hp, q1, q2, q3, ?_⟩
      rw [runR_eq] at q5 q6
      have l5 := (List.getElem?_eq_some_iff.mp h5).1
      have h5' := q7 5 _ (by rw [List.length_append]; omega) (Nat.ne_of_lt l5) np_strs (fun _ _ e => by cases e) ((Kx.app (X := fun _ => False)).kp _ _ id h5)
      rw [← q4] at q6
      rw [q5, endL_eq]
      clear q1 q2 q7
      walk_at "bu"
      exact ⟨m2.pr, 5, (runS [] [] rs).2.1, endL (runS [] [] rs).2.2, rfl, q6, h5', le, le3, rfl⟩
  · obtain rfl := e
    obtain ⟨α', _, _, r⟩ := hf
    rw [ru_bl.mp r]
    exact q _
end
end SF
set_option Elab.async false
set_option linter.all false
set_option maxRecDepth 100000
set_option maxHeartbeats 0
namespace HK
open PySem PySem.Spec PyProof.Rows L2 He G9
section
variable {K : PySem.W.Frag} {w : World} {h : Heap} {mg : Str → Option Value}
theorem parts (c : obsY K = valY w) : (fa.all fun f => f.ok K) = true ∧ (fn.all fun d => d.ok K) = true ∧ ex K = true ∧ (fn.map fun d => fnQ K (d.addr K)) = fn.map FnQ.val ∧ (ts.map fun t => dicW K (t.1 K)) = ts.map fun t => some (keysIn w.params t.2) := by
  have e1 : ((fa.all fun f => f.ok K) && ((fn.all fun d => d.ok K) && ex K)) = true := congrArg (fun z : AlY => z.1) c
  obtain ⟨h1, h2⟩ := ba e1
  obtain ⟨h3, h4⟩ := ba h2
  exact ⟨h1, h3, h4, congrArg (fun z : AlY => z.2.1) c, congrArg (fun z : AlY => z.2.2) c⟩
theorem fact (c : obsY K = valY w) (i : Nat) (f : Fa) (h : fa[i]? = some f := by rfl) : f.ok K = true := List.all_eq_true.mp (parts c).1 f (List.mem_of_getElem? h)
theorem defAt (c : obsY K = valY w) (i : Nat) {d : FnQ} (h : fn[i]? = some d := by rfl) : fnQ K (d.addr K) = d.val ∧ d.ok K = true := by
  obtain ⟨_, h2, _, h4, _⟩ := parts c
  have e2 : (fn.map fun d => fnQ K (d.addr K))[i]? = (fn.map FnQ.val)[i]? := by rw [h4]
  rw [List.getElem?_map, List.getElem?_map, h] at e2
  exact ⟨Option.some.inj e2, List.all_eq_true.mp h2 d (List.mem_of_getElem? h)⟩
theorem tabAt (c : obsY K = valY w) (i : Nat) {t : Tab} (h : ts[i]? = some t := by rfl) : dicW K (t.1 K) = some (keysIn w.params t.2) := by
  obtain ⟨_, _, _, _, h5⟩ := parts c
  have e2 : (ts.map fun t => dicW K (t.1 K))[i]? = (ts.map fun t => some (keysIn w.params t.2))[i]? := by rw [h5]
  rw [List.getElem?_map, List.getElem?_map, h] at e2
  exact Option.some.inj e2
theorem intF {x : Str} {i : Int} (h : ∃ t, mg x = some (.int i t)) : SF.Int1 mg x i := by
  obtain ⟨t, e⟩ := h
  exact ⟨_, e, ⟨t, rfl⟩⟩
theorem facts (X : K.In h) (G : h.Ns mainGlobals mg) (c : obsY K = valY w) : ∃ fd : FuncData, (∀ (s : Shared) (u : Value), BindsTo s fd ⟨[u], []⟩ [("_law_script", u)]) ∧ ∀ base : Heap, K.In base → base.Ns mainGlobals mg → FnOk PR w K mg base CX0 10 (ga K "law") fd ["_law_script"] (SF.spLaw K) := by
  have T : SF.TxtP K mg := { b_len := free_ok X G (fact c 43 (.free "len")), b_list := free_ok X G (fact c 59 (.free "list")), b_int := free_ok X G (fact c 60 (.free "int")), b_range := free_ok X G (fact c 58 (.free "range")), b_isinstance := free_ok X G (fact c 44 (.free "isinstance")), b_str := free_ok X G (fact c 45 (.free "str")), b_tuple := free_ok X G (fact c 46 (.free "tuple")), b_dict := free_ok X G (fact c 47 (.free "dict")), b_all := free_ok X G (fact c 48 (.free "all")), b_any := free_ok X G (fact c 49 (.free "any")), b_set := free_ok X G (fact c 50 (.free "set")), b_zip := free_ok X G (fact c 51 (.free "zip")), b_sorted := free_ok X G (fact c 52 (.free "sorted")), b_enumerate := free_ok X G (fact c 53 (.free "enumerate")), b_reversed := free_ok X G (fact c 54 (.free "reversed")), b_min := free_ok X G (fact c 55 (.free "min")), b_bool := free_ok X G (fact c 61 (.free "bool")), g_MOST_LETTERS := intF (int_ok X G (fact c 62 (.int "MOST_LETTERS" 8))), g_MOST_STATEMENTS := intF (int_ok X G (fact c 63 (.int "MOST_STATEMENTS" 12))), g_MOST_BLOCKS := intF (int_ok X G (fact c 64 (.int "MOST_BLOCKS" 8))), g_MOST_TESTS := intF (int_ok X G (fact c 65 (.int "MOST_TESTS" 3))), g_MOST_THINGS := intF (int_ok X G (fact c 66 (.int "MOST_THINGS" 3))), g_MOST_PARAMS := intF (int_ok X G (fact c 67 (.int "MOST_PARAMS" 3))), g_MOST_FIELDS := intF (int_ok X G (fact c 68 (.int "MOST_FIELDS" 3))), g_MOST_WORDS := intF (int_ok X G (fact c 69 (.int "MOST_WORDS" 4))), g_MOST_METHODS := intF (int_ok X G (fact c 70 (.int "MOST_METHODS" 5))) }
  obtain ⟨v0, xx⟩ := ba (parts c).2.2.1
  have t_SIMPLES : BV.FTS K w mg "SIMPLES" SF.tabS := tab_ok (glo_ok X G (fact c 4 (.glo "SIMPLES"))) (tabAt c 0) v0
  obtain ⟨v1, xx⟩ := ba xx
  have t_CALLS : BV.FTS K w mg "CALLS" SF.tabC := tab_ok (glo_ok X G (fact c 5 (.glo "CALLS"))) (tabAt c 1) v1
  obtain ⟨v2, xx⟩ := ba xx
  have t_TESTS : BV.FTS K w mg "TESTS" SF.tabT := tab_ok (glo_ok X G (fact c 6 (.glo "TESTS"))) (tabAt c 2) v2
  obtain ⟨v3, xx⟩ := ba xx
  have t_STATEMENTS : BV.FTS K w mg "STATEMENTS" SF.tabSt := tab_ok (glo_ok X G (fact c 7 (.glo "STATEMENTS"))) (tabAt c 3) v3
  obtain ⟨y0, xx⟩ := ba xx
  obtain ⟨y1, xx⟩ := ba xx
  obtain ⟨y2, xx⟩ := ba xx
  obtain ⟨y3, xx⟩ := ba xx
  obtain ⟨y4, xx⟩ := ba xx
  obtain ⟨y5, xx⟩ := ba xx
  obtain ⟨y6, xx⟩ := ba xx
  obtain ⟨y7, xx⟩ := ba xx
  obtain ⟨y8, xx⟩ := ba xx
  obtain ⟨y9, xx⟩ := ba xx
  obtain ⟨y10, xx⟩ := ba xx
  obtain ⟨y11, xx⟩ := ba xx
  obtain ⟨y12, xx⟩ := ba xx
  suffices H : ∃ fd : FuncData, L2.Fun K "law" "law" (SF.topS 83) (ga K "law") fd ∧ ∀ base : Heap, K.In base → base.Ns mainGlobals mg → FnOk PR w K mg base CX0 10 (ga K "law") fd ["_law_script"] (SF.spLaw K) by
    obtain ⟨fd, F, H⟩ := H
    refine ⟨fd, fun s u => ?_, H⟩
    obtain ⟨oc, od, kV, doc, pm, an, cdv, ct, osl, rfl, lk, hcd⟩ := F.ex
    exact .of_eq rfl
  obtain ⟨fd_is_name, F_is_name⟩ := FnQ.fun0 (K := K) (st := (SF.topS 14)) (d := ⟨fun K => ga K "is_name", "is_name", "is_name", defArgs (SF.topS 14), defBody (SF.topS 14), defScope (SF.topS 14), []⟩) (defAt c 1).1 (defAt c 1).2 rfl rfl rfl rfl
  have b_is_name : Binds K fd_is_name ["thing"] [] := F_is_name.binds fun _ _ _ _ _ _ us hl => match us, hl with | [_], _ => rfl
  obtain ⟨fd_is_names, F_is_names⟩ := FnQ.fun0 (K := K) (st := (SF.topS 15)) (d := ⟨fun K => ga K "is_names", "is_names", "is_names", defArgs (SF.topS 15), defBody (SF.topS 15), defScope (SF.topS 15), []⟩) (defAt c 2).1 (defAt c 2).2 rfl rfl rfl rfl
  have b_is_names : Binds K fd_is_names ["thing", "least", "most"] [] := F_is_names.binds fun _ _ _ _ _ _ us hl => match us, hl with | [_, _, _], _ => rfl
  obtain ⟨fd_is_name_dict, F_is_name_dict⟩ := FnQ.fun0 (K := K) (st := (SF.topS 16)) (d := ⟨fun K => ga K "is_name_dict", "is_name_dict", "is_name_dict", defArgs (SF.topS 16), defBody (SF.topS 16), defScope (SF.topS 16), []⟩) (defAt c 3).1 (defAt c 3).2 rfl rfl rfl rfl
  have b_is_name_dict : Binds K fd_is_name_dict ["thing", "most"] [] := F_is_name_dict.binds fun _ _ _ _ _ _ us hl => match us, hl with | [_, _], _ => rfl
  obtain ⟨fd_Place___init__, F_Place___init__⟩ := FnQ.fun0 (K := K) (st := (inClass (SF.topS 27) 0)) (d := ⟨fun K => ma K (ga K "Place") "__init__", "__init__", "Place.__init__", defArgs (inClass (SF.topS 27) 0), defBody (inClass (SF.topS 27) 0), defScope (inClass (SF.topS 27) 0), []⟩) (defAt c 38).1 (defAt c 38).2 rfl rfl rfl rfl
  have b_Place___init__ : Binds K fd_Place___init__ ["self", "new_classes", "own_fields", "in_method", "has_parent"] [] := F_Place___init__.binds fun _ _ _ _ _ _ us hl => match us, hl with | [_, _, _, _, _], _ => rfl
  obtain ⟨fd__may_stand, F__may_stand⟩ := FnQ.fun0 (K := K) (st := (SF.topS 34)) (d := ⟨fun K => ga K "_may_stand", "_may_stand", "_may_stand", defArgs (SF.topS 34), defBody (SF.topS 34), defScope (SF.topS 34), []⟩) (defAt c 10).1 (defAt c 10).2 rfl rfl rfl rfl
  have b__may_stand : Binds K fd__may_stand ["word", "returns", "place"] [] := F__may_stand.binds fun _ _ _ _ _ _ us hl => match us, hl with | [_, _, _], _ => rfl
  obtain ⟨fd_form_of, F_form_of⟩ := FnQ.fun0 (K := K) (st := (SF.topS 33)) (d := ⟨fun K => ga K "form_of", "form_of", "form_of", defArgs (SF.topS 33), defBody (SF.topS 33), defScope (SF.topS 33), []⟩) (defAt c 9).1 (defAt c 9).2 rfl rfl rfl rfl
  have b_form_of : Binds K fd_form_of ["kind", "part"] [] := F_form_of.binds fun _ _ _ _ _ _ us hl => match us, hl with | [_, _], _ => rfl
  obtain ⟨fd__is_leaf, F__is_leaf⟩ := FnQ.fun0 (K := K) (st := (SF.topS 30)) (d := ⟨fun K => ga K "_is_leaf", "_is_leaf", "_is_leaf", defArgs (SF.topS 30), defBody (SF.topS 30), defScope (SF.topS 30), []⟩) (defAt c 6).1 (defAt c 6).2 rfl rfl rfl rfl
  have b__is_leaf : Binds K fd__is_leaf ["kind", "part", "place"] [] := F__is_leaf.binds fun _ _ _ _ _ _ us hl => match us, hl with | [_, _, _], _ => rfl
  obtain ⟨fd__statements, F__statements⟩ := FnQ.fun0 (K := K) (st := (SF.topS 31)) (d := ⟨fun K => ga K "_statements", "_statements", "_statements", defArgs (SF.topS 31), defBody (SF.topS 31), defScope (SF.topS 31), []⟩) (defAt c 7).1 (defAt c 7).2 rfl rfl rfl rfl
  have b__statements : Binds K fd__statements ["block", "spot"] [] := F__statements.binds fun _ _ _ _ _ _ us hl => match us, hl with | [_, _], _ => rfl
  obtain ⟨fd__form_parts, F__form_parts⟩ := FnQ.fun0 (K := K) (st := (SF.topS 32)) (d := ⟨fun K => ga K "_form_parts", "_form_parts", "_form_parts", defArgs (SF.topS 32), defBody (SF.topS 32), defScope (SF.topS 32), []⟩) (defAt c 8).1 (defAt c 8).2 rfl rfl rfl rfl
  have b__form_parts : Binds K fd__form_parts ["kind", "part", "spot", "place"] [] := F__form_parts.binds fun _ _ _ _ _ _ us hl => match us, hl with | [_, _, _, _], _ => rfl
  obtain ⟨fd__inner_parts, F__inner_parts⟩ := FnQ.fun0 (K := K) (st := (SF.topS 29)) (d := ⟨fun K => ga K "_inner_parts", "_inner_parts", "_inner_parts", defArgs (SF.topS 29), defBody (SF.topS 29), defScope (SF.topS 29), []⟩) (defAt c 5).1 (defAt c 5).2 rfl rfl rfl rfl
  have b__inner_parts : Binds K fd__inner_parts ["kind", "part", "spot", "place"] [] := F__inner_parts.binds fun _ _ _ _ _ _ us hl => match us, hl with | [_, _, _, _], _ => rfl
  obtain ⟨fd_is_block, F_is_block⟩ := FnQ.fun0 (K := K) (st := (SF.topS 28)) (d := ⟨fun K => ga K "is_block", "is_block", "is_block", defArgs (SF.topS 28), defBody (SF.topS 28), defScope (SF.topS 28), []⟩) (defAt c 4).1 (defAt c 4).2 rfl rfl rfl rfl
  have b_is_block : Binds K fd_is_block ["thing", "place"] [] := F_is_block.binds fun _ _ _ _ _ _ us hl => match us, hl with | [_, _], _ => rfl
  obtain ⟨fd_Surroundings___init__, F_Surroundings___init__⟩ := FnQ.fun0 (K := K) (st := (inClass (SF.topS 49) 0)) (d := ⟨fun K => ma K (ga K "Surroundings") "__init__", "__init__", "Surroundings.__init__", defArgs (inClass (SF.topS 49) 0), defBody (inClass (SF.topS 49) 0), defScope (inClass (SF.topS 49) 0), []⟩) (defAt c 34).1 (defAt c 34).2 rfl rfl rfl rfl
  have b_Surroundings___init__ : Binds K fd_Surroundings___init__ ["self", "outer"] [] := F_Surroundings___init__.binds fun _ _ _ _ _ _ us hl => match us, hl with | [_, _], _ => rfl
  obtain ⟨fd_Call___init__, F_Call___init__⟩ := FnQ.fun0 (K := K) (st := (inClass (SF.topS 50) 0)) (d := ⟨fun K => ma K (ga K "Call") "__init__", "__init__", "Call.__init__", defArgs (inClass (SF.topS 50) 0), defBody (inClass (SF.topS 50) 0), defScope (inClass (SF.topS 50) 0), []⟩) (defAt c 33).1 (defAt c 33).2 rfl rfl rfl rfl
  have b_Call___init__ : Binds K fd_Call___init__ ["self", "surroundings", "thing", "text", "waiting", "number"] [] := F_Call___init__.binds fun _ _ _ _ _ _ us hl => match us, hl with | [_, _, _, _, _, _], _ => rfl
  obtain ⟨fd_Level___init__, F_Level___init__⟩ := FnQ.fun0 (K := K) (st := (inClass (SF.topS 56) 0)) (d := ⟨fun K => ma K (ga K "Level") "__init__", "__init__", "Level.__init__", defArgs (inClass (SF.topS 56) 0), defBody (inClass (SF.topS 56) 0), defScope (inClass (SF.topS 56) 0), []⟩) (defAt c 35).1 (defAt c 35).2 rfl rfl rfl rfl
  have b_Level___init__ : Binds K fd_Level___init__ ["self", "kind", "block", "call", "more"] [] := F_Level___init__.binds fun _ _ _ _ _ _ us hl => match us, hl with | [_, _, _, _, _], _ => rfl
  obtain ⟨fd_Function___init__, F_Function___init__⟩ := FnQ.fun0 (K := K) (st := (inClass (SF.topS 51) 0)) (d := ⟨fun K => ma K (ga K "Function") "__init__", "__init__", "Function.__init__", defArgs (inClass (SF.topS 51) 0), defBody (inClass (SF.topS 51) 0), defScope (inClass (SF.topS 51) 0), []⟩) (defAt c 36).1 (defAt c 36).2 rfl rfl rfl rfl
  have b_Function___init__ : Binds K fd_Function___init__ ["self", "params", "block", "made_in"] [] := F_Function___init__.binds fun _ _ _ _ _ _ us hl => match us, hl with | [_, _, _, _], _ => rfl
  obtain ⟨fd_latest, F_latest⟩ := FnQ.fun0 (K := K) (st := (SF.topS 53)) (d := ⟨fun K => ga K "latest", "latest", "latest", defArgs (SF.topS 53), defBody (SF.topS 53), defScope (SF.topS 53), []⟩) (defAt c 12).1 (defAt c 12).2 rfl rfl rfl rfl
  have b_latest : Binds K fd_latest ["past"] [] := F_latest.binds fun _ _ _ _ _ _ us hl => match us, hl with | [_], _ => rfl
  obtain ⟨fd_Surroundings_give, F_Surroundings_give⟩ := FnQ.fun0 (K := K) (st := (inClass (SF.topS 49) 1)) (d := ⟨fun K => ma K (ga K "Surroundings") "give", "give", "Surroundings.give", defArgs (inClass (SF.topS 49) 1), defBody (inClass (SF.topS 49) 1), defScope (inClass (SF.topS 49) 1), []⟩) (defAt c 56).1 (defAt c 56).2 rfl rfl rfl rfl
  have b_Surroundings_give : Binds K fd_Surroundings_give ["self", "name", "value", "step"] [] := F_Surroundings_give.binds fun _ _ _ _ _ _ us hl => match us, hl with | [_, _, _, _], _ => rfl
  obtain ⟨fd_Surroundings_nearest, F_Surroundings_nearest⟩ := FnQ.fun0 (K := K) (st := (inClass (SF.topS 49) 2)) (d := ⟨fun K => ma K (ga K "Surroundings") "nearest", "nearest", "Surroundings.nearest", defArgs (inClass (SF.topS 49) 2), defBody (inClass (SF.topS 49) 2), defScope (inClass (SF.topS 49) 2), []⟩) (defAt c 57).1 (defAt c 57).2 rfl rfl rfl rfl
  have b_Surroundings_nearest : Binds K fd_Surroundings_nearest ["self", "name"] [] := F_Surroundings_nearest.binds fun _ _ _ _ _ _ us hl => match us, hl with | [_, _], _ => rfl
  obtain ⟨fd_Machine__raise, F_Machine__raise⟩ := FnQ.fun0 (K := K) (st := (inClass (SF.topS 57) 11)) (d := ⟨fun K => ma K (ga K "Machine") "_raise", "_raise", "Machine._raise", defArgs (inClass (SF.topS 57) 11), defBody (inClass (SF.topS 57) 11), defScope (inClass (SF.topS 57) 11), []⟩) (defAt c 39).1 (defAt c 39).2 rfl rfl rfl rfl
  have b_Machine__raise : Binds K fd_Machine__raise ["self", "value"] [] := F_Machine__raise.binds fun _ _ _ _ _ _ us hl => match us, hl with | [_, _], _ => rfl
  obtain ⟨fd_Machine__value, F_Machine__value⟩ := FnQ.fun0 (K := K) (st := (inClass (SF.topS 57) 9)) (d := ⟨fun K => ma K (ga K "Machine") "_value", "_value", "Machine._value", defArgs (inClass (SF.topS 57) 9), defBody (inClass (SF.topS 57) 9), defScope (inClass (SF.topS 57) 9), []⟩) (defAt c 40).1 (defAt c 40).2 rfl rfl rfl rfl
  have b_Machine__value : Binds K fd_Machine__value ["self", "simple", "call"] [] := F_Machine__value.binds fun _ _ _ _ _ _ us hl => match us, hl with | [_, _, _], _ => rfl
  obtain ⟨fd_Machine__values, F_Machine__values⟩ := FnQ.fun0 (K := K) (st := (inClass (SF.topS 57) 8)) (d := ⟨fun K => ma K (ga K "Machine") "_values", "_values", "Machine._values", defArgs (inClass (SF.topS 57) 8), defBody (inClass (SF.topS 57) 8), defScope (inClass (SF.topS 57) 8), []⟩) (defAt c 41).1 (defAt c 41).2 rfl rfl rfl rfl
  have b_Machine__values : Binds K fd_Machine__values ["self", "simples", "call"] [] := F_Machine__values.binds fun _ _ _ _ _ _ us hl => match us, hl with | [_, _, _], _ => rfl
  obtain ⟨fd_told, F_told⟩ := FnQ.fun0 (K := K) (st := (SF.topS 54)) (d := ⟨fun K => ga K "told", "told", "told", defArgs (SF.topS 54), defBody (SF.topS 54), defScope (SF.topS 54), []⟩) (defAt c 13).1 (defAt c 13).2 rfl rfl rfl rfl
  have b_told : Binds K fd_told ["value"] [] := F_told.binds fun _ _ _ _ _ _ us hl => match us, hl with | [_], _ => rfl
  obtain ⟨fd_Machine__holds, F_Machine__holds⟩ := FnQ.fun0 (K := K) (st := (inClass (SF.topS 57) 7)) (d := ⟨fun K => ma K (ga K "Machine") "_holds", "_holds", "Machine._holds", defArgs (inClass (SF.topS 57) 7), defBody (inClass (SF.topS 57) 7), defScope (inClass (SF.topS 57) 7), []⟩) (defAt c 42).1 (defAt c 42).2 rfl rfl rfl rfl
  have b_Machine__holds : Binds K fd_Machine__holds ["self", "test", "call"] [] := F_Machine__holds.binds fun _ _ _ _ _ _ us hl => match us, hl with | [_, _, _], _ => rfl
  obtain ⟨fd_Machine__set, F_Machine__set⟩ := FnQ.fun0 (K := K) (st := (inClass (SF.topS 57) 17)) (d := ⟨fun K => ma K (ga K "Machine") "_set", "_set", "Machine._set", defArgs (inClass (SF.topS 57) 17), defBody (inClass (SF.topS 57) 17), defScope (inClass (SF.topS 57) 17), []⟩) (defAt c 43).1 (defAt c 43).2 rfl rfl rfl rfl
  have b_Machine__set : Binds K fd_Machine__set ["self", "name", "value", "call"] [] := F_Machine__set.binds fun _ _ _ _ _ _ us hl => match us, hl with | [_, _, _, _], _ => rfl
  obtain ⟨fd_Machine__finish, F_Machine__finish⟩ := FnQ.fun0 (K := K) (st := (inClass (SF.topS 57) 16)) (d := ⟨fun K => ma K (ga K "Machine") "_finish", "_finish", "Machine._finish", defArgs (inClass (SF.topS 57) 16), defBody (inClass (SF.topS 57) 16), defScope (inClass (SF.topS 57) 16), []⟩) (defAt c 44).1 (defAt c 44).2 rfl rfl rfl rfl
  have b_Machine__finish : Binds K fd_Machine__finish ["self", "statement", "value", "call"] [] := F_Machine__finish.binds fun _ _ _ _ _ _ us hl => match us, hl with | [_, _, _, _], _ => rfl
  obtain ⟨fd_Machine__choose, F_Machine__choose⟩ := FnQ.fun0 (K := K) (st := (inClass (SF.topS 57) 6)) (d := ⟨fun K => ma K (ga K "Machine") "_choose", "_choose", "Machine._choose", defArgs (inClass (SF.topS 57) 6), defBody (inClass (SF.topS 57) 6), defScope (inClass (SF.topS 57) 6), []⟩) (defAt c 45).1 (defAt c 45).2 rfl rfl rfl rfl
  have b_Machine__choose : Binds K fd_Machine__choose ["self", "statement", "call"] [] := F_Machine__choose.binds fun _ _ _ _ _ _ us hl => match us, hl with | [_, _, _], _ => rfl
  obtain ⟨fd_Machine__enter, F_Machine__enter⟩ := FnQ.fun0 (K := K) (st := (inClass (SF.topS 57) 15)) (d := ⟨fun K => ma K (ga K "Machine") "_enter", "_enter", "Machine._enter", defArgs (inClass (SF.topS 57) 15), defBody (inClass (SF.topS 57) 15), defScope (inClass (SF.topS 57) 15), []⟩) (defAt c 49).1 (defAt c 49).2 rfl rfl rfl rfl
  have b_Machine__enter : Binds K fd_Machine__enter ["self", "begun", "params", "block", "things"] [] := F_Machine__enter.binds fun _ _ _ _ _ _ us hl => match us, hl with | [_, _, _, _, _], _ => rfl
  obtain ⟨fd_Machine__call_function, F_Machine__call_function⟩ := FnQ.fun0 (K := K) (st := (inClass (SF.topS 57) 13)) (d := ⟨fun K => ma K (ga K "Machine") "_call_function", "_call_function", "Machine._call_function", defArgs (inClass (SF.topS 57) 13), defBody (inClass (SF.topS 57) 13), defScope (inClass (SF.topS 57) 13), []⟩) (defAt c 48).1 (defAt c 48).2 rfl rfl rfl rfl
  have b_Machine__call_function : Binds K fd_Machine__call_function ["self", "statement", "function", "things", "call"] [] := F_Machine__call_function.binds fun _ _ _ _ _ _ us hl => match us, hl with | [_, _, _, _, _], _ => rfl
  obtain ⟨fd_Machine__begin_call, F_Machine__begin_call⟩ := FnQ.fun0 (K := K) (st := (inClass (SF.topS 57) 12)) (d := ⟨fun K => ma K (ga K "Machine") "_begin_call", "_begin_call", "Machine._begin_call", defArgs (inClass (SF.topS 57) 12), defBody (inClass (SF.topS 57) 12), defScope (inClass (SF.topS 57) 12), []⟩) (defAt c 47).1 (defAt c 47).2 rfl rfl rfl rfl
  have b_Machine__begin_call : Binds K fd_Machine__begin_call ["self", "statement", "right", "call"] [] := F_Machine__begin_call.binds fun _ _ _ _ _ _ us hl => match us, hl with | [_, _, _, _], _ => rfl
  obtain ⟨fd_Machine__begin, F_Machine__begin⟩ := FnQ.fun0 (K := K) (st := (inClass (SF.topS 57) 5)) (d := ⟨fun K => ma K (ga K "Machine") "_begin", "_begin", "Machine._begin", defArgs (inClass (SF.topS 57) 5), defBody (inClass (SF.topS 57) 5), defScope (inClass (SF.topS 57) 5), []⟩) (defAt c 46).1 (defAt c 46).2 rfl rfl rfl rfl
  have b_Machine__begin : Binds K fd_Machine__begin ["self", "statement", "call"] [] := F_Machine__begin.binds fun _ _ _ _ _ _ us hl => match us, hl with | [_, _, _], _ => rfl
  obtain ⟨fd_Machine__leave_try, F_Machine__leave_try⟩ := FnQ.fun0 (K := K) (st := (inClass (SF.topS 57) 21)) (d := ⟨fun K => ma K (ga K "Machine") "_leave_try", "_leave_try", "Machine._leave_try", defArgs (inClass (SF.topS 57) 21), defBody (inClass (SF.topS 57) 21), defScope (inClass (SF.topS 57) 21), []⟩) (defAt c 51).1 (defAt c 51).2 rfl rfl rfl rfl
  have b_Machine__leave_try : Binds K fd_Machine__leave_try ["self", "level"] [] := F_Machine__leave_try.binds fun _ _ _ _ _ _ us hl => match us, hl with | [_, _], _ => rfl
  obtain ⟨fd_Machine__leave_call, F_Machine__leave_call⟩ := FnQ.fun0 (K := K) (st := (inClass (SF.topS 57) 22)) (d := ⟨fun K => ma K (ga K "Machine") "_leave_call", "_leave_call", "Machine._leave_call", defArgs (inClass (SF.topS 57) 22), defBody (inClass (SF.topS 57) 22), defScope (inClass (SF.topS 57) 22), []⟩) (defAt c 50).1 (defAt c 50).2 rfl rfl rfl rfl
  have b_Machine__leave_call : Binds K fd_Machine__leave_call ["self", "level"] [] := F_Machine__leave_call.binds fun _ _ _ _ _ _ us hl => match us, hl with | [_, _], _ => rfl
  obtain ⟨fd_Machine__leave, F_Machine__leave⟩ := FnQ.fun0 (K := K) (st := (inClass (SF.topS 57) 20)) (d := ⟨fun K => ma K (ga K "Machine") "_leave", "_leave", "Machine._leave", defArgs (inClass (SF.topS 57) 20), defBody (inClass (SF.topS 57) 20), defScope (inClass (SF.topS 57) 20), []⟩) (defAt c 52).1 (defAt c 52).2 rfl rfl rfl rfl
  have b_Machine__leave : Binds K fd_Machine__leave ["self", "level"] [] := F_Machine__leave.binds fun _ _ _ _ _ _ us hl => match us, hl with | [_, _], _ => rfl
  obtain ⟨fd_Machine__settle, F_Machine__settle⟩ := FnQ.fun0 (K := K) (st := (inClass (SF.topS 57) 19)) (d := ⟨fun K => ma K (ga K "Machine") "_settle", "_settle", "Machine._settle", defArgs (inClass (SF.topS 57) 19), defBody (inClass (SF.topS 57) 19), defScope (inClass (SF.topS 57) 19), []⟩) (defAt c 53).1 (defAt c 53).2 rfl rfl rfl rfl
  have b_Machine__settle : Binds K fd_Machine__settle ["self"] [] := F_Machine__settle.binds fun _ _ _ _ _ _ us hl => match us, hl with | [_], _ => rfl
  obtain ⟨fd_Machine__look, F_Machine__look⟩ := FnQ.fun0 (K := K) (st := (inClass (SF.topS 57) 4)) (d := ⟨fun K => ma K (ga K "Machine") "_look", "_look", "Machine._look", defArgs (inClass (SF.topS 57) 4), defBody (inClass (SF.topS 57) 4), defScope (inClass (SF.topS 57) 4), []⟩) (defAt c 54).1 (defAt c 54).2 rfl rfl rfl rfl
  have b_Machine__look : Binds K fd_Machine__look ["self", "level", "statement"] [] := F_Machine__look.binds fun _ _ _ _ _ _ us hl => match us, hl with | [_, _, _], _ => rfl
  obtain ⟨fd_Machine_step, F_Machine_step⟩ := FnQ.fun0 (K := K) (st := (inClass (SF.topS 57) 3)) (d := ⟨fun K => ma K (ga K "Machine") "step", "step", "Machine.step", defArgs (inClass (SF.topS 57) 3), defBody (inClass (SF.topS 57) 3), defScope (inClass (SF.topS 57) 3), []⟩) (defAt c 55).1 (defAt c 55).2 rfl rfl rfl rfl
  have b_Machine_step : Binds K fd_Machine_step ["self"] [] := F_Machine_step.binds fun _ _ _ _ _ _ us hl => match us, hl with | [_], _ => rfl
  obtain ⟨fd__copied_classes, F__copied_classes⟩ := FnQ.fun0 (K := K) (st := (SF.topS 62)) (d := ⟨fun K => ga K "_copied_classes", "_copied_classes", "_copied_classes", defArgs (SF.topS 62), defBody (SF.topS 62), defScope (SF.topS 62), []⟩) (defAt c 14).1 (defAt c 14).2 rfl rfl rfl rfl
  have b__copied_classes : Binds K fd__copied_classes ["classes"] [] := F__copied_classes.binds fun _ _ _ _ _ _ us hl => match us, hl with | [_], _ => rfl
  obtain ⟨fd_Program_classes, F_Program_classes⟩ := FnQ.fun0 (K := K) (st := (inClass (SF.topS 61) 1)) (d := ⟨fun K => getA K, "classes", "Program.classes", defArgs (inClass (SF.topS 61) 1), defBody (inClass (SF.topS 61) 1), defScope (inClass (SF.topS 61) 1), []⟩) (defAt c 58).1 (defAt c 58).2 rfl rfl rfl rfl
  have b_Program_classes : Binds K fd_Program_classes ["self"] [] := F_Program_classes.binds fun _ _ _ _ _ _ us hl => match us, hl with | [_], _ => rfl
  obtain ⟨fd_Machine___init__, F_Machine___init__⟩ := FnQ.fun0 (K := K) (st := (inClass (SF.topS 57) 0)) (d := ⟨fun K => ma K (ga K "Machine") "__init__", "__init__", "Machine.__init__", defArgs (inClass (SF.topS 57) 0), defBody (inClass (SF.topS 57) 0), defScope (inClass (SF.topS 57) 0), []⟩) (defAt c 32).1 (defAt c 32).2 rfl rfl rfl rfl
  have b_Machine___init__ : Binds K fd_Machine___init__ ["self", "program"] [] := F_Machine___init__.binds fun _ _ _ _ _ _ us hl => match us, hl with | [_, _], _ => rfl
  obtain ⟨fd_is_integer, F_is_integer⟩ := FnQ.fun0 (K := K) (st := (SF.topS 13)) (d := ⟨fun K => ga K "is_integer", "is_integer", "is_integer", defArgs (SF.topS 13), defBody (SF.topS 13), defScope (SF.topS 13), []⟩) (defAt c 0).1 (defAt c 0).2 rfl rfl rfl rfl
  have b_is_integer : Binds K fd_is_integer ["thing"] [] := F_is_integer.binds fun _ _ _ _ _ _ us hl => match us, hl with | [_], _ => rfl
  obtain ⟨fd_check_most, F_check_most⟩ := FnQ.fun0 (K := K) (st := (SF.topS 47)) (d := ⟨fun K => ga K "check_most", "check_most", "check_most", defArgs (SF.topS 47), defBody (SF.topS 47), defScope (SF.topS 47), []⟩) (defAt c 11).1 (defAt c 11).2 rfl rfl rfl rfl
  have b_check_most : Binds K fd_check_most ["most"] [] := F_check_most.binds fun _ _ _ _ _ _ us hl => match us, hl with | [_], _ => rfl
  obtain ⟨fd_run, F_run⟩ := FnQ.fun0 (K := K) (st := (SF.topS 69)) (d := ⟨fun K => ga K "run", "run", "run", defArgs (SF.topS 69), defBody (SF.topS 69), defScope (SF.topS 69), []⟩) (defAt c 18).1 (defAt c 18).2 rfl rfl rfl rfl
  obtain ⟨fd__has_ring, F__has_ring⟩ := FnQ.fun0 (K := K) (st := (SF.topS 66)) (d := ⟨fun K => ga K "_has_ring", "_has_ring", "_has_ring", defArgs (SF.topS 66), defBody (SF.topS 66), defScope (SF.topS 66), []⟩) (defAt c 17).1 (defAt c 17).2 rfl rfl rfl rfl
  have b__has_ring : Binds K fd__has_ring ["classes"] [] := F__has_ring.binds fun _ _ _ _ _ _ us hl => match us, hl with | [_], _ => rfl
  obtain ⟨fd__is_classes, F__is_classes⟩ := FnQ.fun0 (K := K) (st := (SF.topS 64)) (d := ⟨fun K => ga K "_is_classes", "_is_classes", "_is_classes", defArgs (SF.topS 64), defBody (SF.topS 64), defScope (SF.topS 64), []⟩) (defAt c 16).1 (defAt c 16).2 rfl rfl rfl rfl
  have b__is_classes : Binds K fd__is_classes ["thing"] [] := F__is_classes.binds fun _ _ _ _ _ _ us hl => match us, hl with | [_], _ => rfl
  obtain ⟨fd__wrong_part, F__wrong_part⟩ := FnQ.fun0 (K := K) (st := (SF.topS 63)) (d := ⟨fun K => ga K "_wrong_part", "_wrong_part", "_wrong_part", defArgs (SF.topS 63), defBody (SF.topS 63), defScope (SF.topS 63), []⟩) (defAt c 15).1 (defAt c 15).2 rfl rfl rfl rfl
  have b__wrong_part : Binds K fd__wrong_part ["classes", "body"] [] := F__wrong_part.binds fun _ _ _ _ _ _ us hl => match us, hl with | [_, _], _ => rfl
  obtain ⟨fd_Program___init__, F_Program___init__⟩ := FnQ.fun0 (K := K) (st := (inClass (SF.topS 61) 0)) (d := ⟨fun K => ma K (ga K "Program") "__init__", "__init__", "Program.__init__", defArgs (inClass (SF.topS 61) 0), defBody (inClass (SF.topS 61) 0), defScope (inClass (SF.topS 61) 0), []⟩) (defAt c 37).1 (defAt c 37).2 rfl rfl rfl rfl
  have b_Program___init__ : Binds K fd_Program___init__ ["self", "classes", "body"] [] := F_Program___init__.binds fun _ _ _ _ _ _ us hl => match us, hl with | [_, _, _], _ => rfl
  obtain ⟨fd__law_load, F__law_load⟩ := FnQ.fun0 (K := K) (st := (SF.topS 72)) (d := ⟨fun K => ga K "_law_load", "_law_load", "_law_load", defArgs (SF.topS 72), defBody (SF.topS 72), defScope (SF.topS 72), []⟩) (defAt c 20).1 (defAt c 20).2 rfl rfl rfl rfl
  have b__law_load : Binds K fd__law_load ["_law_state"] [] := F__law_load.binds fun _ _ _ _ _ _ us hl => match us, hl with | [_], _ => rfl
  obtain ⟨fd__law_draw, F__law_draw⟩ := FnQ.fun0 (K := K) (st := (SF.topS 73)) (d := ⟨fun K => ga K "_law_draw", "_law_draw", "_law_draw", defArgs (SF.topS 73), defBody (SF.topS 73), defScope (SF.topS 73), []⟩) (defAt c 21).1 (defAt c 21).2 rfl rfl rfl rfl
  have b__law_draw : Binds K fd__law_draw ["_law_state", "_law_many"] [] := F__law_draw.binds fun _ _ _ _ _ _ us hl => match us, hl with | [_, _], _ => rfl
  obtain ⟨fd__law_begin, F__law_begin⟩ := FnQ.fun0 (K := K) (st := (SF.topS 71)) (d := ⟨fun K => ga K "_law_begin", "_law_begin", "_law_begin", defArgs (SF.topS 71), defBody (SF.topS 71), defScope (SF.topS 71), []⟩) (defAt c 19).1 (defAt c 19).2 rfl rfl rfl rfl
  have b__law_begin : Binds K fd__law_begin ["_law_script"] [] := F__law_begin.binds fun _ _ _ _ _ _ us hl => match us, hl with | [_], _ => rfl
  obtain ⟨fd__law_word, F__law_word⟩ := FnQ.fun0 (K := K) (st := (SF.topS 74)) (d := ⟨fun K => ga K "_law_word", "_law_word", "_law_word", defArgs (SF.topS 74), defBody (SF.topS 74), defScope (SF.topS 74), []⟩) (defAt c 22).1 (defAt c 22).2 rfl rfl rfl rfl
  have b__law_word : Binds K fd__law_word ["_law_state"] [] := F__law_word.binds fun _ _ _ _ _ _ us hl => match us, hl with | [_], _ => rfl
  obtain ⟨fd__law_words, F__law_words⟩ := FnQ.fun0 (K := K) (st := (SF.topS 75)) (d := ⟨fun K => ga K "_law_words", "_law_words", "_law_words", defArgs (SF.topS 75), defBody (SF.topS 75), defScope (SF.topS 75), []⟩) (defAt c 23).1 (defAt c 23).2 rfl rfl rfl rfl
  have b__law_words : Binds K fd__law_words ["_law_state", "_law_many"] [] := F__law_words.binds fun _ _ _ _ _ _ us hl => match us, hl with | [_, _], _ => rfl
  obtain ⟨fd__law_text, F__law_text⟩ := FnQ.fun0 (K := K) (st := (SF.topS 81)) (d := ⟨fun K => ga K "_law_text", "_law_text", "_law_text", defArgs (SF.topS 81), defBody (SF.topS 81), defScope (SF.topS 81), []⟩) (defAt c 29).1 (defAt c 29).2 rfl rfl rfl rfl
  have b__law_text : Binds K fd__law_text ["_law_simple_here", "_law_held"] [] := F__law_text.binds fun _ _ _ _ _ _ us hl => match us, hl with | [_, _], _ => rfl
  obtain ⟨fd__law_do, F__law_do⟩ := FnQ.fun0 (K := K) (st := (SF.topS 82)) (d := ⟨fun K => ga K "_law_do", "_law_do", "_law_do", defArgs (SF.topS 82), defBody (SF.topS 82), defScope (SF.topS 82), []⟩) (defAt c 30).1 (defAt c 30).2 rfl rfl rfl rfl
  have b__law_do : Binds K fd__law_do ["_law_row_here", "_law_held", "_law_lines"] [] := F__law_do.binds fun _ _ _ _ _ _ us hl => match us, hl with | [_, _, _], _ => rfl
  obtain ⟨fd__law_name, F__law_name⟩ := FnQ.fun0 (K := K) (st := (SF.topS 78)) (d := ⟨fun K => ga K "_law_name", "_law_name", "_law_name", defArgs (SF.topS 78), defBody (SF.topS 78), defScope (SF.topS 78), []⟩) (defAt c 26).1 (defAt c 26).2 rfl rfl rfl rfl
  have b__law_name : Binds K fd__law_name ["_law_state", "_law_names", "_law_held"] [] := F__law_name.binds fun _ _ _ _ _ _ us hl => match us, hl with | [_, _, _], _ => rfl
  obtain ⟨fd__law_simple, F__law_simple⟩ := FnQ.fun0 (K := K) (st := (SF.topS 79)) (d := ⟨fun K => ga K "_law_simple", "_law_simple", "_law_simple", defArgs (SF.topS 79), defBody (SF.topS 79), defScope (SF.topS 79), []⟩) (defAt c 27).1 (defAt c 27).2 rfl rfl rfl rfl
  have b__law_simple : Binds K fd__law_simple ["_law_state", "_law_names", "_law_held"] [] := F__law_simple.binds fun _ _ _ _ _ _ us hl => match us, hl with | [_, _, _], _ => rfl
  obtain ⟨fd__law_row, F__law_row⟩ := FnQ.fun0 (K := K) (st := (SF.topS 80)) (d := ⟨fun K => ga K "_law_row", "_law_row", "_law_row", defArgs (SF.topS 80), defBody (SF.topS 80), defScope (SF.topS 80), []⟩) (defAt c 28).1 (defAt c 28).2 rfl rfl rfl rfl
  have b__law_row : Binds K fd__law_row ["_law_state", "_law_names", "_law_held"] [] := F__law_row.binds fun _ _ _ _ _ _ us hl => match us, hl with | [_, _, _], _ => rfl
  obtain ⟨fd__law_told, F__law_told⟩ := FnQ.fun0 (K := K) (st := (SF.topS 77)) (d := ⟨fun K => ga K "_law_told", "_law_told", "_law_told", defArgs (SF.topS 77), defBody (SF.topS 77), defScope (SF.topS 77), []⟩) (defAt c 25).1 (defAt c 25).2 rfl rfl rfl rfl
  have b__law_told : Binds K fd__law_told ["_law_actual", "_law_lines", "_law_end"] [] := F__law_told.binds fun _ _ _ _ _ _ us hl => match us, hl with | [_, _, _], _ => rfl
  obtain ⟨fd__law_fold, F__law_fold⟩ := FnQ.fun0 (K := K) (st := (SF.topS 76)) (d := ⟨fun K => ga K "_law_fold", "_law_fold", "_law_fold", defArgs (SF.topS 76), defBody (SF.topS 76), defScope (SF.topS 76), []⟩) (defAt c 24).1 (defAt c 24).2 rfl rfl rfl rfl
  have b__law_fold : Binds K fd__law_fold ["_law_rows"] [] := F__law_fold.binds fun _ _ _ _ _ _ us hl => match us, hl with | [_], _ => rfl
  obtain ⟨fd_law, F_law⟩ := FnQ.fun0 (K := K) (st := (SF.topS 83)) (d := ⟨fun K => ga K "law", "law", "law", defArgs (SF.topS 83), defBody (SF.topS 83), defScope (SF.topS 83), []⟩) (defAt c 31).1 (defAt c 31).2 rfl rfl rfl rfl
  have b_law : Binds K fd_law ["_law_script"] [] := F_law.binds fun _ _ _ _ _ _ us hl => match us, hl with | [_], _ => rfl
  refine ⟨fd_law, F_law, fun base hb hbn => ?_⟩
  have TD : SF.TxtD K mg := T.toTxtD
  have TL : SF.TxtL K mg := { toTxtD := TD, b_abs := (free_ok X G (fact c 57 (.free "abs"))), b_max := (free_ok X G (fact c 56 (.free "max"))) }
  have TR : SF.TxtR K mg := { b_len := (free_ok X G (fact c 43 (.free "len"))), b_isinstance := (free_ok X G (fact c 44 (.free "isinstance"))), b_enumerate := (free_ok X G (fact c 53 (.free "enumerate"))), b_max := (free_ok X G (fact c 56 (.free "max"))), b_list := (free_ok X G (fact c 59 (.free "list"))), b_tuple := (free_ok X G (fact c 46 (.free "tuple"))), b_range := (free_ok X G (fact c 58 (.free "range"))), b_reversed := (free_ok X G (fact c 54 (.free "reversed"))), b_int := (free_ok X G (fact c 60 (.free "int"))), b_str := (free_ok X G (fact c 45 (.free "str"))), b_abs := (free_ok X G (fact c 57 (.free "abs"))) }
  have plk : SF.PlK K (ga K "Place") := ⟨cls_ok (fact c 115 (.cls "Place")), noat_ok (fact c 116 (.noat "Place" "new_classes")), noat_ok (fact c 117 (.noat "Place" "own_fields")), noat_ok (fact c 118 (.noat "Place" "in_method")), noat_ok (fact c 119 (.noat "Place" "has_parent"))⟩
  have kc_Machine : SL.KC K (ga K "Machine") ["_classes", "_chains", "_body", "_levels", "_going", "steps", "printed", "deepest", "ending"] := ⟨cls_ok (fact c 74 (.cls "Machine")), fun f hf => by
    rcases List.mem_cons.mp hf with rfl | hf
    · exact noat_ok (fact c 75 (.noat "Machine" "_classes"))
    rcases List.mem_cons.mp hf with rfl | hf
    · exact noat_ok (fact c 76 (.noat "Machine" "_chains"))
    rcases List.mem_cons.mp hf with rfl | hf
    · exact noat_ok (fact c 77 (.noat "Machine" "_body"))
    rcases List.mem_cons.mp hf with rfl | hf
    · exact noat_ok (fact c 78 (.noat "Machine" "_levels"))
    rcases List.mem_cons.mp hf with rfl | hf
    · exact noat_ok (fact c 79 (.noat "Machine" "_going"))
    rcases List.mem_cons.mp hf with rfl | hf
    · exact noat_ok (fact c 80 (.noat "Machine" "steps"))
    rcases List.mem_cons.mp hf with rfl | hf
    · exact noat_ok (fact c 81 (.noat "Machine" "printed"))
    rcases List.mem_cons.mp hf with rfl | hf
    · exact noat_ok (fact c 82 (.noat "Machine" "deepest"))
    rcases List.mem_cons.mp hf with rfl | hf
    · exact noat_ok (fact c 83 (.noat "Machine" "ending"))
    cases hf⟩
  have kc_Call : SL.KC K (ga K "Call") ["surroundings", "thing", "text", "waiting", "number"] := ⟨cls_ok (fact c 85 (.cls "Call")), fun f hf => by
    rcases List.mem_cons.mp hf with rfl | hf
    · exact noat_ok (fact c 86 (.noat "Call" "surroundings"))
    rcases List.mem_cons.mp hf with rfl | hf
    · exact noat_ok (fact c 87 (.noat "Call" "thing"))
    rcases List.mem_cons.mp hf with rfl | hf
    · exact noat_ok (fact c 88 (.noat "Call" "text"))
    rcases List.mem_cons.mp hf with rfl | hf
    · exact noat_ok (fact c 89 (.noat "Call" "waiting"))
    rcases List.mem_cons.mp hf with rfl | hf
    · exact noat_ok (fact c 90 (.noat "Call" "number"))
    cases hf⟩
  have kc_Surroundings : SL.KC K (ga K "Surroundings") ["outer", "pasts"] := ⟨cls_ok (fact c 92 (.cls "Surroundings")), fun f hf => by
    rcases List.mem_cons.mp hf with rfl | hf
    · exact noat_ok (fact c 93 (.noat "Surroundings" "outer"))
    rcases List.mem_cons.mp hf with rfl | hf
    · exact noat_ok (fact c 94 (.noat "Surroundings" "pasts"))
    cases hf⟩
  have kc_Level : SL.KC K (ga K "Level") ["kind", "block", "call", "more", "reached"] := ⟨cls_ok (fact c 96 (.cls "Level")), fun f hf => by
    rcases List.mem_cons.mp hf with rfl | hf
    · exact noat_ok (fact c 97 (.noat "Level" "kind"))
    rcases List.mem_cons.mp hf with rfl | hf
    · exact noat_ok (fact c 98 (.noat "Level" "block"))
    rcases List.mem_cons.mp hf with rfl | hf
    · exact noat_ok (fact c 99 (.noat "Level" "call"))
    rcases List.mem_cons.mp hf with rfl | hf
    · exact noat_ok (fact c 100 (.noat "Level" "more"))
    rcases List.mem_cons.mp hf with rfl | hf
    · exact noat_ok (fact c 101 (.noat "Level" "reached"))
    cases hf⟩
  have kc_Function : SL.KC K (ga K "Function") ["params", "block", "made_in"] := ⟨cls_ok (fact c 103 (.cls "Function")), fun f hf => by
    rcases List.mem_cons.mp hf with rfl | hf
    · exact noat_ok (fact c 104 (.noat "Function" "params"))
    rcases List.mem_cons.mp hf with rfl | hf
    · exact noat_ok (fact c 105 (.noat "Function" "block"))
    rcases List.mem_cons.mp hf with rfl | hf
    · exact noat_ok (fact c 106 (.noat "Function" "made_in"))
    cases hf⟩
  have kc_Thing : SL.KC K (ga K "Thing") ["chain", "pasts"] := ⟨cls_ok (fact c 108 (.cls "Thing")), fun f hf => by
    rcases List.mem_cons.mp hf with rfl | hf
    · exact noat_ok (fact c 109 (.noat "Thing" "chain"))
    rcases List.mem_cons.mp hf with rfl | hf
    · exact noat_ok (fact c 110 (.noat "Thing" "pasts"))
    cases hf⟩
  have kc_Program : SL.KC K (ga K "Program") ["_classes", "body"] := ⟨cls_ok (fact c 111 (.cls "Program")), fun f hf => by
    rcases List.mem_cons.mp hf with rfl | hf
    · exact noat_ok (fact c 112 (.noat "Program" "_classes"))
    rcases List.mem_cons.mp hf with rfl | hf
    · exact noat_ok (fact c 113 (.noat "Program" "body"))
    cases hf⟩
  have iP : C8.InsC K (ga K "Program") := ⟨cls_ok (fact c 111 (.cls "Program")), eqO_ok y0, eqO_ok y1, of_decide_eq_true y2, of_decide_eq_true y3, of_decide_eq_true y4⟩
  have iF : C8.InsC K (ga K "Function") := ⟨cls_ok (fact c 103 (.cls "Function")), eqO_ok y10, eqO_ok y1, of_decide_eq_true y2, of_decide_eq_true y11, of_decide_eq_true y12⟩
  have gF : ∃ u, mg "Function" = some u ∧ RelV (.ref (ga K "Function")) u := ⟨_, (glo_ok X G (fact c 19 (.glo "Function"))), rfl⟩
  have kp : SL.KC K (ga K "Program") SF.prgFs := kc_Program
  have kk : SF.KsOk K (⟨(ga K "Machine"), (ga K "Call"), (ga K "Surroundings"), (ga K "Level"), (ga K "Function"), (ga K "Thing")⟩ : SF.Ks) := ⟨kc_Machine, kc_Call, kc_Surroundings, kc_Level, kc_Function, kc_Thing⟩
  have c_is_name : C8.Cal PR w K mg base 1 "is_name" (BV.SpB SF.G3.lo K SF.WIsName) [] := ⟨_, _, _, [], SF.ok_isName T F_is_name, glo_ok X G (fact c 1 (.glo "is_name")), F_is_name.kp, b_is_name, .nil⟩
  have c_is_names : C8.Cal PR w K mg base 2 "is_names" (BV.SpB SF.G3.lo K SF.WIsNames) [] := ⟨_, _, _, [], SF.ok_isNames T c_is_name F_is_names, glo_ok X G (fact c 2 (.glo "is_names")), F_is_names.kp, b_is_names, .nil⟩
  have c_is_name_dict : C8.Cal PR w K mg base 2 "is_name_dict" (BV.SpB SF.G3 K SF.WIsNameD) [] := ⟨_, _, _, [], SF.ok_isNameD T c_is_name F_is_name_dict, glo_ok X G (fact c 3 (.glo "is_name_dict")), F_is_name_dict.kp, b_is_name_dict, .nil⟩
  have c_Place : C8.Mak PR w K mg base 1 "Place" (ga K "Place") (BV.SpF (ga K "Place") SF.plFs) [] := ⟨_, _, _, [], mkr_ok (fact c 120 (.mkr "Place")), SF.ok_Place T plk F_Place___init__, (glo_ok X G (fact c 8 (.glo "Place"))), b_Place___init__, .nil⟩
  have c__may_stand : C8.Cal PR w K mg base 1 "_may_stand" (BV.SpB SF.G3.lo K (SF.WMay (ga K "Place"))) [] := ⟨_, _, _, [], SF.ok_may T plk F__may_stand, glo_ok X G (fact c 15 (.glo "_may_stand")), F__may_stand.kp, b__may_stand, .nil⟩
  have c_form_of : C8.Cal PR w K mg base 1 "form_of" (BV.SpB SF.G3.lo K SF.WFormOf) [] := ⟨_, _, _, [], SF.ok_formOf T t_SIMPLES t_CALLS t_TESTS t_STATEMENTS F_form_of, glo_ok X G (fact c 14 (.glo "form_of")), F_form_of.kp, b_form_of, .nil⟩
  have c__is_leaf : C8.Cal PR w K mg base 3 "_is_leaf" (BV.SpB SF.G3.lo K (SF.WLeaf (ga K "Place"))) [] := ⟨_, _, _, [], SF.ok_leaf T plk c_is_names c_is_name F__is_leaf, glo_ok X G (fact c 11 (.glo "_is_leaf")), F__is_leaf.kp, b__is_leaf, .nil⟩
  have c__statements : C8.Cal PR w K mg base 1 "_statements" (BV.SpB SF.G3.lo K SF.WStm) [] := ⟨_, _, _, [], SF.ok_stm T F__statements, glo_ok X G (fact c 12 (.glo "_statements")), F__statements.kp, b__statements, .nil⟩
  have c__form_parts : C8.Cal PR w K mg base 2 "_form_parts" (BV.SpB SF.G3.lo K (SF.WForm (ga K "Place"))) [] := ⟨_, _, _, [], SF.ok_form T plk c_form_of c__may_stand F__form_parts, glo_ok X G (fact c 13 (.glo "_form_parts")), F__form_parts.kp, b__form_parts, .nil⟩
  have c__inner_parts : C8.Cal PR w K mg base 4 "_inner_parts" (BV.SpB SF.G3.lo K (SF.WInner (ga K "Place"))) [] := ⟨_, _, _, [], SF.ok_inner T plk c__is_leaf c__statements c__form_parts F__inner_parts, glo_ok X G (fact c 10 (.glo "_inner_parts")), F__inner_parts.kp, b__inner_parts, .nil⟩
  have c_is_block : C8.Cal PR w K mg base 5 "is_block" (BV.SpB SF.G3.lo K (SF.WBlock (ga K "Place"))) [] := ⟨_, _, _, [], SF.ok_block T plk c__inner_parts F_is_block, glo_ok X G (fact c 9 (.glo "is_block")), F_is_block.kp, b_is_block, .nil⟩
  have c_Surroundings : C8.Mak PR w K mg base 1 "Surroundings" (ga K "Surroundings") (SL.SpU K (SF.WSur ⟨(ga K "Machine"), (ga K "Call"), (ga K "Surroundings"), (ga K "Level"), (ga K "Function"), (ga K "Thing")⟩)) [] := ⟨_, _, _, [], mkr_ok (fact c 95 (.mkr "Surroundings")), SF.ok_Sur (k := ⟨(ga K "Machine"), (ga K "Call"), (ga K "Surroundings"), (ga K "Level"), (ga K "Function"), (ga K "Thing")⟩) TR kk F_Surroundings___init__, (glo_ok X G (fact c 17 (.glo "Surroundings"))), b_Surroundings___init__, .nil⟩
  have c_Call : C8.Mak PR w K mg base 1 "Call" (ga K "Call") (SL.SpU K (SF.WCal ⟨(ga K "Machine"), (ga K "Call"), (ga K "Surroundings"), (ga K "Level"), (ga K "Function"), (ga K "Thing")⟩)) [] := ⟨_, _, _, [], mkr_ok (fact c 91 (.mkr "Call")), SF.ok_Cal (k := ⟨(ga K "Machine"), (ga K "Call"), (ga K "Surroundings"), (ga K "Level"), (ga K "Function"), (ga K "Thing")⟩) TR kk F_Call___init__, (glo_ok X G (fact c 18 (.glo "Call"))), b_Call___init__, .nil⟩
  have c_Level : C8.Mak PR w K mg base 1 "Level" (ga K "Level") (SL.SpU K (SF.WLvl ⟨(ga K "Machine"), (ga K "Call"), (ga K "Surroundings"), (ga K "Level"), (ga K "Function"), (ga K "Thing")⟩)) [] := ⟨_, _, _, [], mkr_ok (fact c 102 (.mkr "Level")), SF.ok_Lvl (k := ⟨(ga K "Machine"), (ga K "Call"), (ga K "Surroundings"), (ga K "Level"), (ga K "Function"), (ga K "Thing")⟩) TR kk F_Level___init__, (glo_ok X G (fact c 22 (.glo "Level"))), b_Level___init__, .nil⟩
  have c_Function : C8.Mak PR w K mg base 1 "Function" (ga K "Function") (SL.SpU K (SF.WFun ⟨(ga K "Machine"), (ga K "Call"), (ga K "Surroundings"), (ga K "Level"), (ga K "Function"), (ga K "Thing")⟩)) [] := ⟨_, _, _, [], mkr_ok (fact c 107 (.mkr "Function")), SF.ok_Fnc (k := ⟨(ga K "Machine"), (ga K "Call"), (ga K "Surroundings"), (ga K "Level"), (ga K "Function"), (ga K "Thing")⟩) TR kk F_Function___init__, (glo_ok X G (fact c 19 (.glo "Function"))), b_Function___init__, .nil⟩
  have c_latest : C8.Cal PR w K mg base 1 "latest" (SL.SpU K SF.WLatest) [] := ⟨_, _, _, [], SF.ok_latest TR F_latest, glo_ok X G (fact c 20 (.glo "latest")), F_latest.kp, b_latest, .nil⟩
  have me_give : C8.Met PR w K mg base 1 (ga K "Surroundings") "give" (SL.SpU K (SF.WGive ⟨(ga K "Machine"), (ga K "Call"), (ga K "Surroundings"), (ga K "Level"), (ga K "Function"), (ga K "Thing")⟩)) [] := ⟨_, _, _, [], cls_ok (fact c 92 (.cls "Surroundings")), meth_ok (fact c 138 (.meth "Surroundings" "give")), SF.ok_give (k := ⟨(ga K "Machine"), (ga K "Call"), (ga K "Surroundings"), (ga K "Level"), (ga K "Function"), (ga K "Thing")⟩) TR kk F_Surroundings_give, b_Surroundings_give, .nil⟩
  have me_nearest : C8.Met PR w K mg base 1 (ga K "Surroundings") "nearest" (SL.SpU K (SF.WNear ⟨(ga K "Machine"), (ga K "Call"), (ga K "Surroundings"), (ga K "Level"), (ga K "Function"), (ga K "Thing")⟩)) [] := ⟨_, _, _, [], cls_ok (fact c 92 (.cls "Surroundings")), meth_ok (fact c 139 (.meth "Surroundings" "nearest")), SF.ok_near (k := ⟨(ga K "Machine"), (ga K "Call"), (ga K "Surroundings"), (ga K "Level"), (ga K "Function"), (ga K "Thing")⟩) TR kk F_Surroundings_nearest, b_Surroundings_nearest, .nil⟩
  have me__raise : C8.Met PR w K mg base 1 (ga K "Machine") "_raise" (SL.SpU K (SF.WRaise ⟨(ga K "Machine"), (ga K "Call"), (ga K "Surroundings"), (ga K "Level"), (ga K "Function"), (ga K "Thing")⟩)) [] := ⟨_, _, _, [], cls_ok (fact c 74 (.cls "Machine")), meth_ok (fact c 121 (.meth "Machine" "_raise")), SF.ok_MRaise (k := ⟨(ga K "Machine"), (ga K "Call"), (ga K "Surroundings"), (ga K "Level"), (ga K "Function"), (ga K "Thing")⟩) TR kk F_Machine__raise, b_Machine__raise, .nil⟩
  have me__value : C8.Met PR w K mg base 3 (ga K "Machine") "_value" (SL.SpU K (SF.WValue ⟨(ga K "Machine"), (ga K "Call"), (ga K "Surroundings"), (ga K "Level"), (ga K "Function"), (ga K "Thing")⟩)) [] := ⟨_, _, _, [], cls_ok (fact c 74 (.cls "Machine")), meth_ok (fact c 122 (.meth "Machine" "_value")), SF.ok_MValue (k := ⟨(ga K "Machine"), (ga K "Call"), (ga K "Surroundings"), (ga K "Level"), (ga K "Function"), (ga K "Thing")⟩) TR kk c_Function F_Machine__value, b_Machine__value, .nil⟩
  have me__values : C8.Met PR w K mg base 4 (ga K "Machine") "_values" (SL.SpU K (SF.WValues ⟨(ga K "Machine"), (ga K "Call"), (ga K "Surroundings"), (ga K "Level"), (ga K "Function"), (ga K "Thing")⟩)) [] := ⟨_, _, _, [], cls_ok (fact c 74 (.cls "Machine")), meth_ok (fact c 123 (.meth "Machine" "_values")), SF.ok_MValues (k := ⟨(ga K "Machine"), (ga K "Call"), (ga K "Surroundings"), (ga K "Level"), (ga K "Function"), (ga K "Thing")⟩) TR kk me_nearest me__value c_latest F_Machine__values, b_Machine__values, .nil⟩
  have c_told : C8.Cal PR w K mg base 1 "told" (SL.SpU K SF.WTold) [] := ⟨_, _, _, [], SF.ok_told TR F_told, glo_ok X G (fact c 21 (.glo "told")), F_told.kp, b_told, .nil⟩
  have me__holds : C8.Met PR w K mg base 5 (ga K "Machine") "_holds" (SL.SpU K (SF.WHolds ⟨(ga K "Machine"), (ga K "Call"), (ga K "Surroundings"), (ga K "Level"), (ga K "Function"), (ga K "Thing")⟩)) [] := ⟨_, _, _, [], cls_ok (fact c 74 (.cls "Machine")), meth_ok (fact c 124 (.meth "Machine" "_holds")), SF.ok_MHolds (k := ⟨(ga K "Machine"), (ga K "Call"), (ga K "Surroundings"), (ga K "Level"), (ga K "Function"), (ga K "Thing")⟩) TR kk me__values F_Machine__holds, b_Machine__holds, .nil⟩
  have me__set : C8.Met PR w K mg base 2 (ga K "Machine") "_set" (SL.SpU K (SF.WSet ⟨(ga K "Machine"), (ga K "Call"), (ga K "Surroundings"), (ga K "Level"), (ga K "Function"), (ga K "Thing")⟩)) [] := ⟨_, _, _, [], cls_ok (fact c 74 (.cls "Machine")), meth_ok (fact c 125 (.meth "Machine" "_set")), SF.ok_MSet (k := ⟨(ga K "Machine"), (ga K "Call"), (ga K "Surroundings"), (ga K "Level"), (ga K "Function"), (ga K "Thing")⟩) TR kk me_nearest me_give me__raise F_Machine__set, b_Machine__set, .nil⟩
  have me__finish : C8.Met PR w K mg base 3 (ga K "Machine") "_finish" (SL.SpU K (SF.WFin ⟨(ga K "Machine"), (ga K "Call"), (ga K "Surroundings"), (ga K "Level"), (ga K "Function"), (ga K "Thing")⟩)) [] := ⟨_, _, _, [], cls_ok (fact c 74 (.cls "Machine")), meth_ok (fact c 126 (.meth "Machine" "_finish")), SF.ok_MFin (k := ⟨(ga K "Machine"), (ga K "Call"), (ga K "Surroundings"), (ga K "Level"), (ga K "Function"), (ga K "Thing")⟩) TR kk me_give me__set c_told F_Machine__finish, b_Machine__finish, .nil⟩
  have me__choose : C8.Met PR w K mg base 6 (ga K "Machine") "_choose" (SL.SpU K (SF.WChoose ⟨(ga K "Machine"), (ga K "Call"), (ga K "Surroundings"), (ga K "Level"), (ga K "Function"), (ga K "Thing")⟩)) [] := ⟨_, _, _, [], cls_ok (fact c 74 (.cls "Machine")), meth_ok (fact c 127 (.meth "Machine" "_choose")), SF.ok_MChoose (k := ⟨(ga K "Machine"), (ga K "Call"), (ga K "Surroundings"), (ga K "Level"), (ga K "Function"), (ga K "Thing")⟩) TR kk me__holds me__raise c_Level F_Machine__choose, b_Machine__choose, .nil⟩
  have me__enter : C8.Met PR w K mg base 3 (ga K "Machine") "_enter" (SL.SpU K (SF.WEnter ⟨(ga K "Machine"), (ga K "Call"), (ga K "Surroundings"), (ga K "Level"), (ga K "Function"), (ga K "Thing")⟩)) [] := ⟨_, _, _, [], cls_ok (fact c 74 (.cls "Machine")), meth_ok (fact c 131 (.meth "Machine" "_enter")), SF.ok_MEnter (k := ⟨(ga K "Machine"), (ga K "Call"), (ga K "Surroundings"), (ga K "Level"), (ga K "Function"), (ga K "Thing")⟩) TR kk me_give c_Level F_Machine__enter, b_Machine__enter, .nil⟩
  have me__call_function : C8.Met PR w K mg base 4 (ga K "Machine") "_call_function" (SL.SpU K (SF.WCallF ⟨(ga K "Machine"), (ga K "Call"), (ga K "Surroundings"), (ga K "Level"), (ga K "Function"), (ga K "Thing")⟩)) [] := ⟨_, _, _, [], cls_ok (fact c 74 (.cls "Machine")), meth_ok (fact c 130 (.meth "Machine" "_call_function")), SF.ok_MCallF (k := ⟨(ga K "Machine"), (ga K "Call"), (ga K "Surroundings"), (ga K "Level"), (ga K "Function"), (ga K "Thing")⟩) TR kk gF iF c_Surroundings c_Call me__enter F_Machine__call_function, b_Machine__call_function, .nil⟩
  have me__begin_call : C8.Met PR w K mg base 5 (ga K "Machine") "_begin_call" (SL.SpU K (SF.WBegC ⟨(ga K "Machine"), (ga K "Call"), (ga K "Surroundings"), (ga K "Level"), (ga K "Function"), (ga K "Thing")⟩)) [] := ⟨_, _, _, [], cls_ok (fact c 74 (.cls "Machine")), meth_ok (fact c 129 (.meth "Machine" "_begin_call")), SF.ok_MBegC (k := ⟨(ga K "Machine"), (ga K "Call"), (ga K "Surroundings"), (ga K "Level"), (ga K "Function"), (ga K "Thing")⟩) TR kk me__values me__raise me__call_function F_Machine__begin_call, b_Machine__begin_call, .nil⟩
  have me__begin : C8.Met PR w K mg base 7 (ga K "Machine") "_begin" (SL.SpU K (SF.WBeg ⟨(ga K "Machine"), (ga K "Call"), (ga K "Surroundings"), (ga K "Level"), (ga K "Function"), (ga K "Thing")⟩)) [] := ⟨_, _, _, [], cls_ok (fact c 74 (.cls "Machine")), meth_ok (fact c 128 (.meth "Machine" "_begin")), SF.ok_MBegin (k := ⟨(ga K "Machine"), (ga K "Call"), (ga K "Surroundings"), (ga K "Level"), (ga K "Function"), (ga K "Thing")⟩) TR kk t_CALLS me__choose me__values me__raise me__finish c_Level me__begin_call F_Machine__begin, b_Machine__begin, .nil⟩
  have me__leave_try : C8.Met PR w K mg base 3 (ga K "Machine") "_leave_try" (SL.SpU K (SF.WLeaveTry ⟨(ga K "Machine"), (ga K "Call"), (ga K "Surroundings"), (ga K "Level"), (ga K "Function"), (ga K "Thing")⟩)) [] := ⟨_, _, _, [], cls_ok (fact c 74 (.cls "Machine")), meth_ok (fact c 133 (.meth "Machine" "_leave_try")), SF.ok_MLeaveTry (k := ⟨(ga K "Machine"), (ga K "Call"), (ga K "Surroundings"), (ga K "Level"), (ga K "Function"), (ga K "Thing")⟩) TR kk me_give c_Level F_Machine__leave_try, b_Machine__leave_try, .nil⟩
  have me__leave_call : C8.Met PR w K mg base 4 (ga K "Machine") "_leave_call" (SL.SpU K (SF.WLeaveCall ⟨(ga K "Machine"), (ga K "Call"), (ga K "Surroundings"), (ga K "Level"), (ga K "Function"), (ga K "Thing")⟩)) [] := ⟨_, _, _, [], cls_ok (fact c 74 (.cls "Machine")), meth_ok (fact c 132 (.meth "Machine" "_leave_call")), SF.ok_MLeaveCall (k := ⟨(ga K "Machine"), (ga K "Call"), (ga K "Surroundings"), (ga K "Level"), (ga K "Function"), (ga K "Thing")⟩) TR kk me__finish F_Machine__leave_call, b_Machine__leave_call, .nil⟩
  have me__leave : C8.Met PR w K mg base 5 (ga K "Machine") "_leave" (SL.SpU K (SF.WLeave ⟨(ga K "Machine"), (ga K "Call"), (ga K "Surroundings"), (ga K "Level"), (ga K "Function"), (ga K "Thing")⟩)) [] := ⟨_, _, _, [], cls_ok (fact c 74 (.cls "Machine")), meth_ok (fact c 134 (.meth "Machine" "_leave")), SF.ok_MLeave (k := ⟨(ga K "Machine"), (ga K "Call"), (ga K "Surroundings"), (ga K "Level"), (ga K "Function"), (ga K "Thing")⟩) TR kk me__leave_try c_told c_Level me__leave_call F_Machine__leave, b_Machine__leave, .nil⟩
  have me__settle : C8.Met PR w K mg base 6 (ga K "Machine") "_settle" (SL.SpU K (SF.WSettle ⟨(ga K "Machine"), (ga K "Call"), (ga K "Surroundings"), (ga K "Level"), (ga K "Function"), (ga K "Thing")⟩)) [] := ⟨_, _, _, [], cls_ok (fact c 74 (.cls "Machine")), meth_ok (fact c 135 (.meth "Machine" "_settle")), SF.ok_MSettle (k := ⟨(ga K "Machine"), (ga K "Call"), (ga K "Surroundings"), (ga K "Level"), (ga K "Function"), (ga K "Thing")⟩) TR kk me__leave F_Machine__settle, b_Machine__settle, .nil⟩
  have me__look : C8.Met PR w K mg base 6 (ga K "Machine") "_look" (SL.SpU K (SF.WLook ⟨(ga K "Machine"), (ga K "Call"), (ga K "Surroundings"), (ga K "Level"), (ga K "Function"), (ga K "Thing")⟩)) [] := ⟨_, _, _, [], cls_ok (fact c 74 (.cls "Machine")), meth_ok (fact c 136 (.meth "Machine" "_look")), SF.ok_MLook (k := ⟨(ga K "Machine"), (ga K "Call"), (ga K "Surroundings"), (ga K "Level"), (ga K "Function"), (ga K "Thing")⟩) TR kk me__holds me__raise c_Level F_Machine__look, b_Machine__look, .nil⟩
  have me_step : C8.Met PR w K mg base 8 (ga K "Machine") "step" (SL.SpU K (SF.WStep ⟨(ga K "Machine"), (ga K "Call"), (ga K "Surroundings"), (ga K "Level"), (ga K "Function"), (ga K "Thing")⟩)) [] := ⟨_, _, _, [], cls_ok (fact c 74 (.cls "Machine")), meth_ok (fact c 137 (.meth "Machine" "step")), SF.ok_MStep (k := ⟨(ga K "Machine"), (ga K "Call"), (ga K "Surroundings"), (ga K "Level"), (ga K "Function"), (ga K "Thing")⟩) TR kk me__look me__begin me__settle F_Machine_step, b_Machine_step, .nil⟩
  have c__copied_classes : C8.Cal PR w K mg base 2 "_copied_classes" (SL.SpU K SF.WCopies) [] := ⟨_, _, _, [], SF.ok_copies TR F__copied_classes, glo_ok X G (fact c 25 (.glo "_copied_classes")), F__copied_classes.kp, b__copied_classes, .nil⟩
  have prop : PropOf K (ga K "Program") "classes" (ma K (ga K "Program") "classes") (getA K) := by
    refine ⟨eqO_ok y5, eqO_ok y6, of_decide_eq_true y7, ?_⟩
    unfold getA
    have y8 := y8
    unfold recB at y8
    revert y8
    cases e : PySem.W.recIn K (ma K (ga K "Program") "classes") "property" with
    | none => intro p4; cases p4
    | some l =>
      cases l with
      | nil => intro p4; cases p4
      | cons a r =>
        cases a with
        | ref g => exact fun _ => ⟨r, rfl⟩
        | _ => intro p4; cases p4
  have pg : SF.PropC PR w K mg base 3 (ga K "Program") "classes" (SL.SpU K (SF.WGetCl (ga K "Program"))) := ⟨_, _, _, prop, SF.ok_getCl TR kp c__copied_classes F_Program_classes, b_Program_classes⟩
  have TS : SF.TxtS K mg (ga K "Program") := { toTxtR := TR, b_bool := (free_ok X G (fact c 61 (.free "bool"))), g_Program := ⟨_, (glo_ok X G (fact c 24 (.glo "Program"))), rfl⟩, g_MOST_CALLS := intF (int_ok X G (fact c 73 (.int "MOST_CALLS" 200))), g_HIGHEST_MOST := intF (int_ok X G (fact c 71 (.int "HIGHEST_MOST" 100000))), i_Program := iP }
  have g_MC : SF.Int1 mg "MOST_CLASSES" 8 := intF (int_ok X G (fact c 72 (.int "MOST_CLASSES" 8)))
  have c_Machine : C8.Mak PR w K mg base 7 "Machine" (ga K "Machine") (SL.SpU K (SF.WMac ⟨(ga K "Machine"), (ga K "Call"), (ga K "Surroundings"), (ga K "Level"), (ga K "Function"), (ga K "Thing")⟩ (ga K "Program"))) [] := ⟨_, _, _, [], mkr_ok (fact c 84 (.mkr "Machine")), SF.ok_Mac (k := ⟨(ga K "Machine"), (ga K "Call"), (ga K "Surroundings"), (ga K "Level"), (ga K "Function"), (ga K "Thing")⟩) TR kk kp pg c_Call c_Surroundings c_Level me__settle F_Machine___init__, (glo_ok X G (fact c 23 (.glo "Machine"))), b_Machine___init__, .nil⟩
  have c_is_integer : C8.Cal PR w K mg base 1 "is_integer" (SL.SpU K SF.WIsI) [] := ⟨_, _, _, [], SF.ok_isI TS F_is_integer, glo_ok X G (fact c 0 (.glo "is_integer")), F_is_integer.kp, b_is_integer, .nil⟩
  have c_check_most : C8.Cal PR w K mg base 2 "check_most" (SL.SpU K SF.WMost) [] := ⟨_, _, _, [], SF.ok_most TS c_is_integer F_check_most, glo_ok X G (fact c 16 (.glo "check_most")), F_check_most.kp, b_check_most, .nil⟩
  have c_run : C8.Cal PR w K mg base 9 "run" (SL.SpU K (SF.WRun ⟨(ga K "Machine"), (ga K "Call"), (ga K "Surroundings"), (ga K "Level"), (ga K "Function"), (ga K "Thing")⟩ (ga K "Program"))) [.int 20000] := by
    obtain ⟨ds, r, b⟩ := FunD.binds0 (ps := ["program", "most"]) (G17.kwFun F_run y9) 1 (by simp) rfl (fun D doc pm an cdv ct us ks h1 h2 => match us, ks, h1, h2 with | [u], [z], _, _ => ⟨_, _, _, _, _, _, rfl, rfl, rfl⟩)
    exact ⟨_, _, _, ds, SF.ok_run TS (k := ⟨(ga K "Machine"), (ga K "Call"), (ga K "Surroundings"), (ga K "Level"), (ga K "Function"), (ga K "Thing")⟩) kk c_check_most c_Machine me_step F_run, (glo_ok X G (fact c 29 (.glo "run"))), F_run.kp, b, r⟩
  have c__has_ring : C8.Cal PR w K mg base 1 "_has_ring" (BV.SpB SF.G3 K SF.WRing0) [] := ⟨_, _, _, [], SF.ok_ring0 T F__has_ring, glo_ok X G (fact c 28 (.glo "_has_ring")), F__has_ring.kp, b__has_ring, .nil⟩
  have c__is_classes : C8.Cal PR w K mg base 3 "_is_classes" (BV.SpB SF.G3 K SF.WIsCls) [] := ⟨_, _, _, [], SF.ok_isCls T g_MC c_is_name_dict c__has_ring F__is_classes, glo_ok X G (fact c 27 (.glo "_is_classes")), F__is_classes.kp, b__is_classes, .nil⟩
  have c__wrong_part : C8.Cal PR w K mg base 6 "_wrong_part" (BV.SpB SF.G3 K SF.WWrong) [] := ⟨_, _, _, [], SF.ok_wrong T plk c__is_classes c_Place c_is_block F__wrong_part, glo_ok X G (fact c 26 (.glo "_wrong_part")), F__wrong_part.kp, b__wrong_part, .nil⟩
  have c_Program : C8.Mak PR w K mg base 7 "Program" (ga K "Program") (SL.SpU K (SF.WPrg (ga K "Program"))) [] := ⟨_, _, _, [], mkr_ok (fact c 114 (.mkr "Program")), SF.ok_Prg TR kp c__wrong_part c__copied_classes F_Program___init__, (glo_ok X G (fact c 24 (.glo "Program"))), b_Program___init__, .nil⟩
  have c__law_load : C8.Cal PR w K mg base 1 "_law_load" (SF.spLoad) [] := ⟨_, _, _, [], SF.ok_load TL F__law_load, glo_ok X G (fact c 31 (.glo "_law_load")), F__law_load.kp, b__law_load, .nil⟩
  have c__law_draw : C8.Cal PR w K mg base 2 "_law_draw" (SF.spDraw2) [] := ⟨_, _, _, [], SF.ok_draw2 TL c__law_load F__law_draw, glo_ok X G (fact c 32 (.glo "_law_draw")), F__law_draw.kp, b__law_draw, .nil⟩
  have c__law_begin : C8.Cal PR w K mg base 1 "_law_begin" (SF.spBegin K) [] := ⟨_, _, _, [], SF.ok_begin TL F__law_begin, glo_ok X G (fact c 30 (.glo "_law_begin")), F__law_begin.kp, b__law_begin, .nil⟩
  have c__law_word : C8.Cal PR w K mg base 3 "_law_word" (SF.spWord) [] := ⟨_, _, _, [], SF.ok_word TL c__law_draw F__law_word, glo_ok X G (fact c 33 (.glo "_law_word")), F__law_word.kp, b__law_word, .nil⟩
  have c__law_words : C8.Cal PR w K mg base 4 "_law_words" (SF.spWords) [] := ⟨_, _, _, [], SF.ok_words TL c__law_word F__law_words, glo_ok X G (fact c 34 (.glo "_law_words")), F__law_words.kp, b__law_words, .nil⟩
  have c__law_text : C8.Cal PR w K mg base 1 "_law_text" (SL.SpU K SF.WText) [] := ⟨_, _, _, [], SF.ok_text TR F__law_text, glo_ok X G (fact c 40 (.glo "_law_text")), F__law_text.kp, b__law_text, .nil⟩
  have c__law_do : C8.Cal PR w K mg base 2 "_law_do" (SL.SpU K SF.WDo) [] := ⟨_, _, _, [], SF.ok_do TR c__law_text F__law_do, glo_ok X G (fact c 41 (.glo "_law_do")), F__law_do.kp, b__law_do, .nil⟩
  have c__law_name : C8.Cal PR w K mg base 3 "_law_name" (SL.SpU K SF.WNm) [] := ⟨_, _, _, [], SF.ok_name TR c__law_draw F__law_name, glo_ok X G (fact c 37 (.glo "_law_name")), F__law_name.kp, b__law_name, .nil⟩
  have c__law_simple : C8.Cal PR w K mg base 4 "_law_simple" (SL.SpU K SF.WSm) [] := ⟨_, _, _, [], SF.ok_simple TR c__law_draw c__law_word c__law_name F__law_simple, glo_ok X G (fact c 38 (.glo "_law_simple")), F__law_simple.kp, b__law_simple, .nil⟩
  have c__law_row : C8.Cal PR w K mg base 5 "_law_row" (SL.SpU K SF.WRw) [] := ⟨_, _, _, [], SF.ok_row TR c__law_draw c__law_word c__law_name c__law_simple F__law_row, glo_ok X G (fact c 39 (.glo "_law_row")), F__law_row.kp, b__law_row, .nil⟩
  have c__law_told : C8.Cal PR w K mg base 1 "_law_told" (SL.SpU K SF.WToldL) [] := ⟨_, _, _, [], SF.ok_toldL TR F__law_told, glo_ok X G (fact c 36 (.glo "_law_told")), F__law_told.kp, b__law_told, .nil⟩
  have c__law_fold : C8.Cal PR w K mg base 1 "_law_fold" (SL.SpU K SF.WFold) [] := ⟨_, _, _, [], SF.ok_fold TR F__law_fold, glo_ok X G (fact c 35 (.glo "_law_fold")), F__law_fold.kp, b__law_fold, .nil⟩
  exact SF.ok_law TS c__law_begin c__law_draw c__law_words c__law_row c__law_do c__law_fold c__law_told c_Program c_run F_law
end
end HK
set_option Elab.async false
set_option linter.all false
set_option maxRecDepth 1000000
set_option maxHeartbeats 0
open PySem PySem.W PySem.Calls PyProof.Rows
theorem PySem.Challenge.cw_standsfor_k19_names_in_straight_rows_holds : PySem.Challenge.rw_standsfor_k19_names_in_straight_rows.Holds := by
  w_on; o_law
  refine HandSHeadRun.head_any (r := OpenLaw.row PySem.Challenge.rw_standsfor_k19_names_in_straight_rows) (q := view (OpenLaw.row PySem.Challenge.rw_standsfor_k19_names_in_straight_rows).prog [83]) (H := HK.hk) (ob := HK.ob) (M := 8000) (loose := HK.loose) (d := HandSHeadRun.topDef (OpenLaw.row PySem.Challenge.rw_standsfor_k19_names_in_straight_rows).prog 83) (kwd := []) HK.ob_eq
    (by kernel_rfl) (fun s => by kernel_rfl) (byRow2 "special-get-raises" HK.runF HK.runT) (by kernel_rfl) (by kernel_rfl) (by kernel_rfl) (by rfl) (by first | assumption | decide +kernel) (by decide +kernel) ⟨rfl, rfl, rfl, rfl, rfl, by decide +kernel⟩ ?hw ?hc
  case hw => w_witness2
  case hc =>
    refine L2.walk_ofE (l := PySem.Challenge.rw_standsfor_k19_names_in_straight_rows) (n := 63) (k := 10) (x := "_law_script") (CX := L2.CX0) rfl (by decide) (by kernel_rfl) ⟨rfl, by decide, by decide⟩ ?F (fun _ _ _ _ z => z)
    intro w mg fa h Y G hmg0
    obtain ⟨K, KX, c⟩ := Y
    have hmg : mg ("law" : PySem.Str) = some (.ref fa) := by
      have e : (HandSHeadRun.topDef (OpenLaw.row PySem.Challenge.rw_standsfor_k19_names_in_straight_rows).prog 83).name = ("law" : PySem.Str) := by kernel_rfl
      rw [← e]
      exact hmg0
    have e2 := hmg.symm.trans (He.glo_ok KX G (HK.fact c 42 (.glo "law")))
    cases e2
    obtain ⟨fd, hb, hF⟩ := HK.facts (w := w) KX G c
    exact ⟨K, fd, SF.spLaw K, KX, hb, fun H a ns hl _ hS => ⟨a, ns, rfl, hS, hl, fun _ => rfl⟩, hF⟩
