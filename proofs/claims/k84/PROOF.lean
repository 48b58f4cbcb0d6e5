import PyProof.Rows.All
import Wide.All
import OpenK.AllK
import Wide.FinOn
import HandS.Base
import HandS.Call
import HandS.Ends
import HandS.Words
import PySem.Challenge.RW_stepswithin_k84_whole_counts_of_words
import KE.KStateDown
import HandS.More
import HandS.WordsExc
import HandS.Defaults
import HandS.Exc
import HandS.ExcInit
import HandS.Head0
import HandS.Head1
import HandS.Head2
import HandS.Head3
import HandS.HeadEnd
import HandS.HeadHook1
import HandS.HeadHook2
import HandS.HeadHook3
import HandS.HeadHook4
import PyProof.EqAt
import PyProof.EqKinds
import PyProof.TupleCall
import HandS.List
import HandS.Comp
import HandS.Dict
import HandS.Iter
import HandS.Evl
import HandS.WordsList
import PyProof.Rows.NestShow
import HandS.Wide
import PyProof.ReprRoads
import HandS.ExcOwn
import HandS.Lambda
import HandS.EndBits
import HandS.EndTab
import HandS.Gcd
import HandS.IsInst
import HandS.TupAny
import HandS.TupMul
import HandS.ExcField
import HandS.TryMany
import KE.KMathG
import KE.GoesMore
import KE.GoesEnum
import HandS.ExcIs
import HandS.ExcValue
import KE.KRevSl
import KE.KMathGC
import HandS.RaiseMore
import HandS.Conv
import HandS.WordsDict
import KE.KDictKeyed
import HandS.DictComp
import HandS.CallLocal
import HandS.Star
import HandS.Walk
import HandS.Style
import HandS.SetFor
set_option Elab.async false
set_option linter.all false
set_option maxRecDepth 100000
set_option maxHeartbeats 4000000
namespace My
open PySem PySem.Spec PyProof.Rows L2
def top (i : Nat) : Stmt := PySem.Challenge.pw_stepswithin_k84_whole_counts_of_words.main.body.getD i (.Pass ⟨0, 0, 0, 0⟩)
abbrev s_opened : Stmt := top 8
abbrev s_is_integer : Stmt := top 13
abbrev s_is_number : Stmt := top 14
abbrev s_is_step : Stmt := top 15
abbrev s_need_number : Stmt := top 16
abbrev s_need_row : Stmt := top 17
abbrev s_reaches : Stmt := top 20
abbrev s_bound_of : Stmt := top 21
abbrev s_refuse_many : Stmt := top 22
abbrev s_is_whole : Stmt := top 23
abbrev s_need_integer_number : Stmt := top 24
abbrev s_integers_of : Stmt := top 25
abbrev s_integer_at : Stmt := top 26
abbrev s_is_let : Stmt := top 29
abbrev s_need_choices : Stmt := top 30
abbrev s_bound_of_all : Stmt := top 31
abbrev s_need_goal : Stmt := top 32
abbrev s_most_to : Stmt := top 33
abbrev s_followers_of : Stmt := top 34
abbrev s_explored : Stmt := top 35
abbrev s_word_in : Stmt := top 36
abbrev s_counted : Stmt := top 37
abbrev s_reach : Stmt := top 38
abbrev s_count_words : Stmt := top 39
abbrev s__law_mixed : Stmt := top 41
abbrev s__law_begin : Stmt := top 42
abbrev s__law_draw : Stmt := top 43
abbrev s__law_of : Stmt := top 44
abbrev s__law_divisor : Stmt := top 45
abbrev s__law_frac : Stmt := top 46
abbrev s__law_add : Stmt := top 47
abbrev s__law_mul : Stmt := top 48
abbrev s__law_power : Stmt := top 49
abbrev s__law_less : Stmt := top 50
abbrev s__law_like : Stmt := top 51
abbrev s__law_size_at : Stmt := top 52
abbrev s__law_choices : Stmt := top 53
abbrev s__law_led_to : Stmt := top 54
abbrev s__law_most : Stmt := top 55
abbrev s__law_word : Stmt := top 56
abbrev s__law_all_ends : Stmt := top 57
abbrev s__law_right : Stmt := top 58
abbrev s__law_refused : Stmt := top 59
abbrev s_law : Stmt := top 60
abbrev s_BadNumber_init : Stmt := inClass (top 3) 0
abbrev s_BadRow_init : Stmt := inClass (top 4) 0
abbrev s_BadParameter_init : Stmt := inClass (top 5) 0
abbrev s_TooGreat_init : Stmt := inClass (top 6) 0
theorem sc_opened : FnScope ["numbers", "bottom", "_", "part", "top"] ["numbers"] (defScope s_opened) := ⟨rfl, rfl, rfl, by decide +kernel, rfl, by decide +kernel, by decide +kernel⟩
theorem sc_is_integer : FnScope ["value"] ["value"] (defScope s_is_integer) := ⟨rfl, rfl, rfl, by decide +kernel, rfl, by decide +kernel, by decide +kernel⟩
theorem sc_is_number : FnScope ["value", "top", "bottom"] ["value"] (defScope s_is_number) := ⟨rfl, rfl, rfl, by decide +kernel, rfl, by decide +kernel, by decide +kernel⟩
theorem sc_is_step : FnScope ["value", "number"] ["value"] (defScope s_is_step) := ⟨rfl, rfl, rfl, by decide +kernel, rfl, by decide +kernel, by decide +kernel⟩
theorem sc_need_number : FnScope ["value"] ["value"] (defScope s_need_number) := ⟨rfl, rfl, rfl, by decide +kernel, rfl, by decide +kernel, by decide +kernel⟩
theorem sc_need_row : FnScope ["value", "place", "step"] ["value"] (defScope s_need_row) := ⟨rfl, rfl, rfl, by decide +kernel, rfl, by decide +kernel, by decide +kernel⟩
theorem sc_reaches : FnScope ["sizes", "bottom", "bound", "found", "size"] ["sizes", "bottom", "bound"] (defScope s_reaches) := ⟨rfl, rfl, rfl, by decide +kernel, rfl, by decide +kernel, by decide +kernel⟩
theorem sc_bound_of : FnScope ["step", "sizes", "high", "low", "tops", "bottom", "half", "top"] ["step"] (defScope s_bound_of) := ⟨rfl, rfl, rfl, by decide +kernel, rfl, by decide +kernel, by decide +kernel⟩
theorem sc_refuse_many : FnScope ["bound"] ["bound"] (defScope s_refuse_many) := ⟨rfl, rfl, rfl, by decide +kernel, rfl, by decide +kernel, by decide +kernel⟩
theorem sc_is_whole : FnScope ["step", "_", "bottom"] ["step"] (defScope s_is_whole) := ⟨rfl, rfl, rfl, by decide +kernel, rfl, by decide +kernel, by decide +kernel⟩
theorem sc_need_integer_number : FnScope ["value"] ["value"] (defScope s_need_integer_number) := ⟨rfl, rfl, rfl, by decide +kernel, rfl, by decide +kernel, by decide +kernel⟩
theorem sc_integers_of : FnScope ["step", "top", "_"] ["step"] (defScope s_integers_of) := ⟨rfl, rfl, rfl, by decide +kernel, rfl, by decide +kernel, by decide +kernel⟩
theorem sc_integer_at : FnScope ["tops", "number", "found", "top"] ["tops", "number"] (defScope s_integer_at) := ⟨rfl, rfl, rfl, by decide +kernel, rfl, by decide +kernel, by decide +kernel⟩
theorem sc_is_let : FnScope ["step"] ["step"] (defScope s_is_let) := ⟨rfl, rfl, rfl, by decide +kernel, rfl, by decide +kernel, by decide +kernel⟩
theorem sc_need_choices : FnScope ["steps", "place", "step"] ["steps"] (defScope s_need_choices) := ⟨rfl, rfl, rfl, by decide +kernel, rfl, by decide +kernel, by decide +kernel⟩
theorem sc_bound_of_all : FnScope ["steps", "step"] ["steps"] (defScope s_bound_of_all) := ⟨rfl, rfl, rfl, by decide +kernel, rfl, by decide +kernel, by decide +kernel⟩
theorem sc_need_goal : FnScope ["steps", "start", "goal"] ["steps", "start", "goal"] (defScope s_need_goal) := ⟨rfl, rfl, rfl, by decide +kernel, rfl, by decide +kernel, by decide +kernel⟩
theorem sc_most_to : FnScope ["steps", "goal", "most"] ["steps", "goal"] (defScope s_most_to) := ⟨rfl, rfl, rfl, by decide +kernel, rfl, by decide +kernel, by decide +kernel⟩
theorem sc_followers_of : FnScope ["rows", "number", "most", "found", "tops", "follower"] ["rows", "number", "most"] (defScope s_followers_of) := ⟨rfl, rfl, rfl, by decide +kernel, rfl, by decide +kernel, by decide +kernel⟩
theorem sc_explored : FnScope ["steps", "start", "most", "rows", "graph", "order", "met", "at", "number", "followers", "follower", "step"] ["steps", "start", "most"] (defScope s_explored) := ⟨rfl, rfl, rfl, by decide +kernel, rfl, by decide +kernel, by decide +kernel⟩
theorem sc_word_in : FnScope ["graph", "start", "goal", "links", "word", "at", "number", "followers", "index", "follower"] ["graph", "start", "goal"] (defScope s_word_in) := ⟨rfl, rfl, rfl, by decide +kernel, rfl, by decide +kernel, by decide +kernel⟩
theorem sc_counted : FnScope ["graph", "start", "length", "counts", "_", "longer", "number", "many", "follower"] ["graph", "start", "length"] (defScope s_counted) := ⟨rfl, rfl, rfl, by decide +kernel, rfl, by decide +kernel, by decide +kernel⟩
theorem sc_reach : FnScope ["steps", "start", "goal", "graph"] ["steps", "start", "goal"] (defScope s_reach) := ⟨rfl, rfl, rfl, by decide +kernel, rfl, by decide +kernel, by decide +kernel⟩
theorem sc_count_words : FnScope ["steps", "start", "goal", "length", "graph"] ["steps", "start", "goal", "length"] (defScope s_count_words) := ⟨rfl, rfl, rfl, by decide +kernel, rfl, by decide +kernel, by decide +kernel⟩
theorem sc__law_mixed : FnScope ["cell", "k"] ["cell", "k"] (defScope s__law_mixed) := ⟨rfl, rfl, rfl, by decide +kernel, rfl, by decide +kernel, by decide +kernel⟩
theorem sc__law_begin : FnScope ["script", "cells_so", "lefts", "cell"] ["script"] (defScope s__law_begin) := ⟨rfl, rfl, rfl, by decide +kernel, rfl, by decide +kernel, by decide +kernel⟩
theorem sc__law_draw : FnScope ["state", "limit", "at", "place", "left", "number"] ["state", "limit"] (defScope s__law_draw) := ⟨rfl, rfl, rfl, by decide +kernel, rfl, by decide +kernel, by decide +kernel⟩
theorem sc__law_of : FnScope ["state", "some"] ["state", "some"] (defScope s__law_of) := ⟨rfl, rfl, rfl, by decide +kernel, rfl, by decide +kernel, by decide +kernel⟩
theorem sc__law_divisor : FnScope ["one", "other"] ["one", "other"] (defScope s__law_divisor) := ⟨rfl, rfl, rfl, by decide +kernel, rfl, by decide +kernel, by decide +kernel⟩
theorem sc__law_frac : FnScope ["above", "below", "shared"] ["above", "below"] (defScope s__law_frac) := ⟨rfl, rfl, rfl, by decide +kernel, rfl, by decide +kernel, by decide +kernel⟩
theorem sc__law_add : FnScope ["one", "other"] ["one", "other"] (defScope s__law_add) := ⟨rfl, rfl, rfl, by decide +kernel, rfl, by decide +kernel, by decide +kernel⟩
theorem sc__law_mul : FnScope ["one", "other"] ["one", "other"] (defScope s__law_mul) := ⟨rfl, rfl, rfl, by decide +kernel, rfl, by decide +kernel, by decide +kernel⟩
theorem sc__law_power : FnScope ["worth", "many_so", "found", "turn"] ["worth", "many_so"] (defScope s__law_power) := ⟨rfl, rfl, rfl, by decide +kernel, rfl, by decide +kernel, by decide +kernel⟩
theorem sc__law_less : FnScope ["one", "other"] ["one", "other"] (defScope s__law_less) := ⟨rfl, rfl, rfl, by decide +kernel, rfl, by decide +kernel, by decide +kernel⟩
theorem sc__law_like : FnScope ["got", "due"] ["got", "due"] (defScope s__law_like) := ⟨rfl, rfl, rfl, by decide +kernel, rfl, by decide +kernel, by decide +kernel⟩
theorem sc__law_size_at : FnScope ["told", "wide", "power", "head", "low", "size", "worth"] ["told", "wide"] (defScope s__law_size_at) := ⟨rfl, rfl, rfl, by decide +kernel, rfl, by decide +kernel, by decide +kernel⟩
theorem sc__law_choices : FnScope ["state", "found", "turn", "pick", "head", "told"] ["state"] (defScope s__law_choices) := ⟨rfl, rfl, rfl, by decide +kernel, rfl, by decide +kernel, by decide +kernel⟩
theorem sc__law_led_to : FnScope ["told", "here", "found", "worth"] ["told", "here"] (defScope s__law_led_to) := ⟨rfl, rfl, rfl, by decide +kernel, rfl, by decide +kernel, by decide +kernel⟩
theorem sc__law_most : FnScope ["steps_so", "most", "told", "wide", "high", "low"] ["steps_so"] (defScope s__law_most) := ⟨rfl, rfl, rfl, by decide +kernel, rfl, by decide +kernel, by decide +kernel⟩
theorem sc__law_word : FnScope ["call", "error"] ["call"] (defScope s__law_word) := ⟨rfl, rfl, rfl, by decide +kernel, rfl, by decide +kernel, by decide +kernel⟩
theorem sc__law_all_ends : FnScope ["steps_so", "first", "size", "found", "turn", "more", "here", "told"] ["steps_so", "first", "size"] (defScope s__law_all_ends) := ⟨rfl, rfl, rfl, by decide +kernel, rfl, by decide +kernel, by decide +kernel⟩
theorem sc__law_right : FnScope ["state", "steps_so", "wide", "first", "last", "size", "parts", "told", "word", "due", "there"] ["state"] (defScope s__law_right) := ⟨rfl, rfl, rfl, by decide +kernel, rfl, by decide +kernel, by decide +kernel⟩
theorem sc__law_refused : FnScope ["state", "steps_so", "odd", "got", "due", "size"] ["state"] (defScope s__law_refused) := ⟨rfl, rfl, rfl, by decide +kernel, rfl, by decide +kernel, by decide +kernel⟩
theorem sc_law : FnScope ["script", "state", "lap", "got", "square", "turned"] ["script"] (defScope s_law) := ⟨rfl, rfl, rfl, by decide +kernel, rfl, by decide +kernel, by decide +kernel⟩
theorem sc_BadNumber_init : FnScope ["self", "value"] ["self", "value"] (defScope s_BadNumber_init) := ⟨rfl, rfl, rfl, by decide +kernel, rfl, by decide +kernel, by decide +kernel⟩
theorem sc_BadRow_init : FnScope ["self", "place"] ["self", "place"] (defScope s_BadRow_init) := ⟨rfl, rfl, rfl, by decide +kernel, rfl, by decide +kernel, by decide +kernel⟩
theorem sc_BadParameter_init : FnScope ["self", "value"] ["self", "value"] (defScope s_BadParameter_init) := ⟨rfl, rfl, rfl, by decide +kernel, rfl, by decide +kernel, by decide +kernel⟩
theorem sc_TooGreat_init : FnScope ["self", "most"] ["self", "most"] (defScope s_TooGreat_init) := ⟨rfl, rfl, rfl, by decide +kernel, rfl, by decide +kernel, by decide +kernel⟩
end My

set_option Elab.async false
set_option linter.all false
set_option maxRecDepth 100000
set_option maxHeartbeats 0
set_option exponentiation.threshold 20000
namespace My
open PySem PySem.Spec PyProof.Rows L2

def fnd : List He.DefD := [
  ⟨("opened", none), "opened", "opened", defArgs s_opened, defBody s_opened, defScope s_opened, [], []⟩,
  ⟨("is_integer", none), "is_integer", "is_integer", defArgs s_is_integer, defBody s_is_integer, defScope s_is_integer, [], []⟩,
  ⟨("is_number", none), "is_number", "is_number", defArgs s_is_number, defBody s_is_number, defScope s_is_number, [], []⟩,
  ⟨("is_step", none), "is_step", "is_step", defArgs s_is_step, defBody s_is_step, defScope s_is_step, [], []⟩,
  ⟨("need_number", none), "need_number", "need_number", defArgs s_need_number, defBody s_need_number, defScope s_need_number, [], []⟩,
  ⟨("need_row", none), "need_row", "need_row", defArgs s_need_row, defBody s_need_row, defScope s_need_row, [], []⟩,
  ⟨("reaches", none), "reaches", "reaches", defArgs s_reaches, defBody s_reaches, defScope s_reaches, [], []⟩,
  ⟨("bound_of", none), "bound_of", "bound_of", defArgs s_bound_of, defBody s_bound_of, defScope s_bound_of, [], []⟩,
  ⟨("refuse_many", none), "refuse_many", "refuse_many", defArgs s_refuse_many, defBody s_refuse_many, defScope s_refuse_many, [], []⟩,
  ⟨("is_whole", none), "is_whole", "is_whole", defArgs s_is_whole, defBody s_is_whole, defScope s_is_whole, [], []⟩,
  ⟨("need_integer_number", none), "need_integer_number", "need_integer_number", defArgs s_need_integer_number, defBody s_need_integer_number, defScope s_need_integer_number, [], []⟩,
  ⟨("integers_of", none), "integers_of", "integers_of", defArgs s_integers_of, defBody s_integers_of, defScope s_integers_of, [], []⟩,
  ⟨("integer_at", none), "integer_at", "integer_at", defArgs s_integer_at, defBody s_integer_at, defScope s_integer_at, [], []⟩,
  ⟨("is_let", none), "is_let", "is_let", defArgs s_is_let, defBody s_is_let, defScope s_is_let, [], []⟩,
  ⟨("need_choices", none), "need_choices", "need_choices", defArgs s_need_choices, defBody s_need_choices, defScope s_need_choices, [], []⟩,
  ⟨("bound_of_all", none), "bound_of_all", "bound_of_all", defArgs s_bound_of_all, defBody s_bound_of_all, defScope s_bound_of_all, [], []⟩,
  ⟨("need_goal", none), "need_goal", "need_goal", defArgs s_need_goal, defBody s_need_goal, defScope s_need_goal, [], []⟩,
  ⟨("most_to", none), "most_to", "most_to", defArgs s_most_to, defBody s_most_to, defScope s_most_to, [], []⟩,
  ⟨("followers_of", none), "followers_of", "followers_of", defArgs s_followers_of, defBody s_followers_of, defScope s_followers_of, [], []⟩,
  ⟨("explored", none), "explored", "explored", defArgs s_explored, defBody s_explored, defScope s_explored, [], []⟩,
  ⟨("word_in", none), "word_in", "word_in", defArgs s_word_in, defBody s_word_in, defScope s_word_in, [], []⟩,
  ⟨("counted", none), "counted", "counted", defArgs s_counted, defBody s_counted, defScope s_counted, [], []⟩,
  ⟨("reach", none), "reach", "reach", defArgs s_reach, defBody s_reach, defScope s_reach, [], []⟩,
  ⟨("count_words", none), "count_words", "count_words", defArgs s_count_words, defBody s_count_words, defScope s_count_words, [], []⟩,
  ⟨("_law_mixed", none), "_law_mixed", "_law_mixed", defArgs s__law_mixed, defBody s__law_mixed, defScope s__law_mixed, [], []⟩,
  ⟨("_law_begin", none), "_law_begin", "_law_begin", defArgs s__law_begin, defBody s__law_begin, defScope s__law_begin, [], []⟩,
  ⟨("_law_draw", none), "_law_draw", "_law_draw", defArgs s__law_draw, defBody s__law_draw, defScope s__law_draw, [], []⟩,
  ⟨("_law_of", none), "_law_of", "_law_of", defArgs s__law_of, defBody s__law_of, defScope s__law_of, [], []⟩,
  ⟨("_law_divisor", none), "_law_divisor", "_law_divisor", defArgs s__law_divisor, defBody s__law_divisor, defScope s__law_divisor, [], []⟩,
  ⟨("_law_frac", none), "_law_frac", "_law_frac", defArgs s__law_frac, defBody s__law_frac, defScope s__law_frac, [], []⟩,
  ⟨("_law_add", none), "_law_add", "_law_add", defArgs s__law_add, defBody s__law_add, defScope s__law_add, [], []⟩,
  ⟨("_law_mul", none), "_law_mul", "_law_mul", defArgs s__law_mul, defBody s__law_mul, defScope s__law_mul, [], []⟩,
  ⟨("_law_power", none), "_law_power", "_law_power", defArgs s__law_power, defBody s__law_power, defScope s__law_power, [], []⟩,
  ⟨("_law_less", none), "_law_less", "_law_less", defArgs s__law_less, defBody s__law_less, defScope s__law_less, [], []⟩,
  ⟨("_law_like", none), "_law_like", "_law_like", defArgs s__law_like, defBody s__law_like, defScope s__law_like, [], []⟩,
  ⟨("_law_size_at", none), "_law_size_at", "_law_size_at", defArgs s__law_size_at, defBody s__law_size_at, defScope s__law_size_at, [], []⟩,
  ⟨("_law_choices", none), "_law_choices", "_law_choices", defArgs s__law_choices, defBody s__law_choices, defScope s__law_choices, [], []⟩,
  ⟨("_law_led_to", none), "_law_led_to", "_law_led_to", defArgs s__law_led_to, defBody s__law_led_to, defScope s__law_led_to, [], []⟩,
  ⟨("_law_most", none), "_law_most", "_law_most", defArgs s__law_most, defBody s__law_most, defScope s__law_most, [], []⟩,
  ⟨("_law_word", none), "_law_word", "_law_word", defArgs s__law_word, defBody s__law_word, defScope s__law_word, [], []⟩,
  ⟨("_law_all_ends", none), "_law_all_ends", "_law_all_ends", defArgs s__law_all_ends, defBody s__law_all_ends, defScope s__law_all_ends, [], []⟩,
  ⟨("_law_right", none), "_law_right", "_law_right", defArgs s__law_right, defBody s__law_right, defScope s__law_right, [], []⟩,
  ⟨("_law_refused", none), "_law_refused", "_law_refused", defArgs s__law_refused, defBody s__law_refused, defScope s__law_refused, [], []⟩,
  ⟨("law", none), "law", "law", defArgs s_law, defBody s_law, defScope s_law, [], []⟩,
  ⟨("BadNumber", some "__init__"), "__init__", "BadNumber.__init__", defArgs s_BadNumber_init, defBody s_BadNumber_init, defScope s_BadNumber_init, [], []⟩,
  ⟨("BadRow", some "__init__"), "__init__", "BadRow.__init__", defArgs s_BadRow_init, defBody s_BadRow_init, defScope s_BadRow_init, [], []⟩,
  ⟨("BadParameter", some "__init__"), "__init__", "BadParameter.__init__", defArgs s_BadParameter_init, defBody s_BadParameter_init, defScope s_BadParameter_init, [], []⟩,
  ⟨("TooGreat", some "__init__"), "__init__", "TooGreat.__init__", defArgs s_TooGreat_init, defBody s_TooGreat_init, defScope s_TooGreat_init, [], []⟩]
def fa0 : List He.Fa := [.glo "opened", .glo "is_integer", .glo "is_number", .glo "is_step", .glo "need_number", .glo "need_row", .glo "reaches", .glo "bound_of", .glo "refuse_many", .glo "is_whole", .glo "need_integer_number", .glo "integers_of", .glo "integer_at", .glo "is_let", .glo "need_choices", .glo "bound_of_all", .glo "need_goal", .glo "most_to", .glo "followers_of", .glo "explored", .glo "word_in", .glo "counted", .glo "reach", .glo "count_words", .glo "_law_mixed", .glo "_law_begin", .glo "_law_draw", .glo "_law_of", .glo "_law_divisor", .glo "_law_frac", .glo "_law_add", .glo "_law_mul", .glo "_law_power", .glo "_law_less", .glo "_law_like", .glo "_law_size_at", .glo "_law_choices", .glo "_law_led_to", .glo "_law_most", .glo "_law_word"]
def fa1 : List He.Fa := [.glo "_law_all_ends", .glo "_law_right", .glo "_law_refused", .glo "law", .glo "StepError", .glo "BadNumber", .glo "BadRow", .glo "BadParameter", .glo "TooGreat", .free "len", .free "isinstance", .free "abs", .free "all", .free "tuple", .free "list", .free "int", .free "max", .free "repr", .free "range", .free "enumerate", .free "reversed", .free "bool", .free "ValueError", .free "sorted", .free "zip", .free "sum", .free "any", .free "divmod", .free "set", .free "dict", .free "min", .free "str", .free "pow", .int "GREATEST" 1000000000000000000000000000000000000000000000000000000000000, .int "MOST_DEGREE" 64, .int "MOST_STEPS" 8, .int "MOST_LOOKED_AT" 2000, .int "MOST_LENGTH" 60, .exm "BadNumber" "BadNumber" true, .exm "BadNumber" "BadRow" false]
def fa2 : List He.Fa := [.exm "BadNumber" "BadParameter" false, .exm "BadNumber" "TooGreat" false, .exm "BadRow" "BadNumber" false, .exm "BadRow" "BadRow" true, .exm "BadRow" "BadParameter" false, .exm "BadRow" "TooGreat" false, .exm "BadParameter" "BadNumber" false, .exm "BadParameter" "BadRow" false, .exm "BadParameter" "BadParameter" true, .exm "BadParameter" "TooGreat" false, .exm "TooGreat" "BadNumber" false, .exm "TooGreat" "BadRow" false, .exm "TooGreat" "BadParameter" false, .exm "TooGreat" "TooGreat" true, .meth "BadNumber" "__init__", .noat "BadNumber" "value", .meth "BadRow" "__init__", .noat "BadRow" "place", .meth "BadParameter" "__init__", .noat "BadParameter" "value", .meth "TooGreat" "__init__", .noat "TooGreat" "most"]
def fac : List He.Fa := fa0 ++ fa1 ++ fa2
/-- an exception class of the text -/
def oexB (K : PySem.W.Frag) (C : Addr) : Bool := (match K.lookup C with
  | some ⟨.type "type", _, .cls cd, sl⟩ => (match cd.mro, sl.toList with
    | .ref C' :: bm, [_, _, _, _, some (.builtin n), _] => C' == C && (n == "ValueError.__new__" && (!cd.hasDel && (cd.hasDict && PySem.HandSPX.refsVE bm)))
    | _, _ => false)
  | _ => false) && (decide (PySem.W.findIn K (.ref C) "__setattr__" = some (some (.builtin "object.__setattr__"))) &&
  (decide (PySem.W.findIn K (.ref C) "__getattribute__" = some (some (.builtin "BaseException.__getattribute__"))) && (decide (PySem.W.findIn K (.ref C) "__getattr__" = some none) &&
  (decide (PySem.W.subIn K (.ref C) (.type "BaseException") = some true) && (decide (PySem.W.typeIn K (.ref C) = some (.type "type")) && (PySem.W.keepIn K (.ref C) && PySem.W.hasDictIn K C))))))
def exns : List Str := [Str.ofString "StepError", Str.ofString "BadNumber", Str.ofString "BadRow", Str.ofString "BadParameter", Str.ofString "TooGreat"]
def gmB (K : PySem.W.Frag) (x : Str) (id : String) : Bool := decide (PySem.W.nsIn K mainGlobals x = some (some (.builtin id)))
def extraA (K : PySem.W.Frag) : Bool := gmB K "gcd" "math.gcd" && gmB K "lcm" "math.lcm" && true
def extraN (K : PySem.W.Frag) : Bool := true
def extraL (K : PySem.W.Frag) : Bool := true
def kits : List Str := []
def extraK (K : PySem.W.Frag) : Bool := true
def apart (K : PySem.W.Frag) : Bool := true
def extra (K : PySem.W.Frag) : Bool := (exns.all fun x => oexB K (He.ga K x)) && (apart K && (extraA K && (extraN K && (extraL K && extraK K))))
def ls0 : List Str := [Str.ofString "StepError", Str.ofString "BadNumber", Str.ofString "BadRow", Str.ofString "BadParameter", Str.ofString "TooGreat", Str.ofString "GREATEST", Str.ofString "MOST_DEGREE", Str.ofString "MOST_STEPS", Str.ofString "MOST_LOOKED_AT", Str.ofString "MOST_LENGTH", Str.ofString "opened", Str.ofString "is_integer", Str.ofString "is_number", Str.ofString "is_step", Str.ofString "need_number", Str.ofString "need_row", Str.ofString "reaches", Str.ofString "bound_of", Str.ofString "refuse_many", Str.ofString "is_whole", Str.ofString "need_integer_number", Str.ofString "integers_of", Str.ofString "integer_at", Str.ofString "is_let", Str.ofString "need_choices", Str.ofString "bound_of_all", Str.ofString "need_goal", Str.ofString "most_to", Str.ofString "followers_of", Str.ofString "explored", Str.ofString "word_in", Str.ofString "counted", Str.ofString "reach", Str.ofString "count_words", Str.ofString "_law_mixed", Str.ofString "_law_begin"]
def ls1 : List Str := [Str.ofString "_law_draw", Str.ofString "_law_of", Str.ofString "_law_divisor", Str.ofString "_law_frac", Str.ofString "_law_add", Str.ofString "_law_mul", Str.ofString "_law_power", Str.ofString "_law_less", Str.ofString "_law_like", Str.ofString "_law_size_at", Str.ofString "_law_choices", Str.ofString "_law_led_to", Str.ofString "_law_most", Str.ofString "_law_word", Str.ofString "_law_all_ends", Str.ofString "_law_right", Str.ofString "_law_refused"]
def loose : List Str := ls0 ++ ls1
abbrev R : PySem.W.OpenRow := PySem.W.OpenLaw.row PySem.Challenge.rw_stepswithin_k84_whole_counts_of_words
def tfs : List He.Defn := [("_law_refused", none)]
abbrev hk : PySem.W.Hook := He.hookX 5 fac fnd [] tfs extra
def ob (s : PySem.W.SharedT) : He.AlX := He.obsX 5 fac fnd [] tfs extra (HandSHeadRun.getT s)
theorem ob_eq (s : PySem.W.SharedT) : ob s = hk.obs s.abs := He.obsX_eq (HandSHeadRun.getT_eq s)
theorem run (w : World) : HandSHeadRun.RunEqI R (PySem.W.view R.prog [0, 60]) hk ob 20000 loose w := by
  unfold HandSHeadRun.RunEqI
  kernel_rfl
end My

set_option exponentiation.threshold 256
set_option maxHeartbeats 200000
set_option maxRecDepth 512

set_option Elab.async false
set_option linter.all false
set_option maxRecDepth 100000
set_option maxHeartbeats 4000000
namespace My
open PySem PySem.Spec PyProof.Rows L2
/-! ### data in a heap, but for what may change -/
def cut (N : List Addr) (H : Hp) : Hp := fun a => if a ∈ N then none else H a
def Live (N : List Addr) (H : Hp) : Prop := ∀ a ∈ N, H a ≠ none
theorem cut_in {N : List Addr} {H : Hp} {a : Addr} (h : a ∈ N) : cut N H a = none := if_pos h
theorem cut_out {N : List Addr} {H : Hp} {a : Addr} (h : a ∉ N) : cut N H a = H a := if_neg h
theorem cut_same (N : List Addr) (H : Hp) : Same (cut N H) H := fun a o e => by
  by_cases h : a ∈ N
  · rw [cut_in h] at e; cases e
  · rw [cut_out h] at e; exact e
theorem _root_.L2.Same.cut {H H' : Hp} (N : List Addr) (s : Same H H') : Same (My.cut N H) (My.cut N H') := fun a o e => by
  by_cases h : a ∈ N
  · rw [cut_in h] at e; cases e
  · rw [cut_out h] at e ⊢; exact s a o e
theorem Live.same {N : List Addr} {H H' : Hp} (l : Live N H) (s : Same H H') : Live N H' := fun a h => by
  have := l a h
  cases e : H a with
  | none => exact absurd e this
  | some o => rw [s a o e]; simp
theorem Live.new {N : List Addr} {H : Hp} {p : Addr} (l : Live N H) (h : H p = none) : p ∉ N := fun z => l p z h
theorem same_new {H : Hp} {p : Addr} {o : HO} (h : H p = none) : Same H (upd H p o) := fun a u e => by
  rw [upd_ne (ne_of_none e h)]; exact e
/-- a change within N -/
theorem cut_upd {N : List Addr} {H : Hp} {p : Addr} {o : HO} (h : p ∈ N) : cut N (upd H p o) = cut N H := by
  funext a
  by_cases z : a ∈ N
  · rw [cut_in z, cut_in z]
  · rw [cut_out z, cut_out z, upd_ne (fun e => z (by rw [e]; exact h))]
theorem cut_at {N : List Addr} {H : Hp} {p : Addr} {o : HO} (h : p ∉ N) (e : H p = some o) : cut N H p = some o := by
  rw [cut_out h]; exact e

mutual
theorem dp_ext {K : PySem.W.Frag} {H H' : Hp} (e : Same H H') : ∀ (d : PyData) (v : V), Dp K H v d → Dp K H' v d
  | .none, _, h => by cases h; exact .non
  | .bool b, _, h => by cases h; exact .bl b
  | .int b, _, h => by cases h; exact .int b
  | .str b, _, h => by cases h; exact .str b
  | .list ds, _, h => by
    cases h with
    | lst a b => exact .lst (Evl.ex_l e a) (dpAll_ext e ds _ b)
  | .tuple ds, _, h => by
    cases h with
    | tup a b => exact .tup (Evl.ex_t e a) (dpAll_ext e ds _ b)
  | .dict _, _, h => by cases h
theorem dpAll_ext {K : PySem.W.Frag} {H H' : Hp} (e : Same H H') : ∀ (ds : List PyData) (vs : List V), DpAll K H vs ds → DpAll K H' vs ds
  | [], _, h => by cases h; exact .nil
  | d :: ds, _, h => by
    cases h with
    | cons a b => exact .cons (dp_ext e d _ a) (dpAll_ext e ds _ b)
end
end My
namespace L2
open PySem PySem.Spec PyProof.Rows My
theorem Dp.ext {K : PySem.W.Frag} {H H' : Hp} {v : V} {d : PyData} (h : Dp K H v d) (e : Same H H') : Dp K H' v d := dp_ext e d v h
theorem DpAll.ext {K : PySem.W.Frag} {H H' : Hp} {v : List V} {d : List PyData} (h : DpAll K H v d) (e : Same H H') : DpAll K H' v d := dpAll_ext e d v h
theorem Dp.un {K : PySem.W.Frag} {N : List Addr} {H : Hp} {v : V} {d : PyData} (h : Dp K (cut N H) v d) : Dp K H v d := Dp.ext h (cut_same N H)
theorem DpAll.un {K : PySem.W.Frag} {N : List Addr} {H : Hp} {v : List V} {d : List PyData} (h : DpAll K (cut N H) v d) : DpAll K H v d := DpAll.ext h (cut_same N H)
theorem Dp.i {K : PySem.W.Frag} {H : Hp} {v : V} {i : Int} (h : Dp K H v (.int i)) : v = .int i := by cases h; rfl
theorem DpAll.length {K : PySem.W.Frag} {H : Hp} : ∀ {vs : List V} {ds : List PyData}, DpAll K H vs ds → vs.length = ds.length
  | _, [], h => by cases h; rfl
  | _, d :: ds, h => by
    cases h with
    | cons a b => simp [DpAll.length b]
theorem DpAll.get {K : PySem.W.Frag} {H : Hp} : ∀ {vs : List V} {ds : List PyData} {i : Nat} {d : PyData}, DpAll K H vs ds → ds[i]? = some d → ∃ v, vs[i]? = some v ∧ Dp K H v d
  | _, [], i, d, h, e => by simp at e
  | _, d :: ds, 0, d', h, e => by
    cases h with
    | cons a b => simp at e; subst e; exact ⟨_, rfl, a⟩
  | _, d :: ds, i + 1, d', h, e => by
    cases h with
    | cons a b =>
      obtain ⟨v, h1, h2⟩ := DpAll.get (i := i) b (by simpa using e)
      exact ⟨v, by simpa using h1, h2⟩
theorem DpAll.get' {K : PySem.W.Frag} {H : Hp} : ∀ {vs : List V} {ds : List PyData} {i : Nat} {v : V}, DpAll K H vs ds → vs[i]? = some v → ∃ d, ds[i]? = some d ∧ Dp K H v d
  | _, [], i, d, h, e => by cases h; simp at e
  | _, d :: ds, 0, d', h, e => by
    cases h with
    | cons a b => simp at e; subst e; exact ⟨_, rfl, a⟩
  | _, d :: ds, i + 1, d', h, e => by
    cases h with
    | cons a b =>
      obtain ⟨v, h1, h2⟩ := DpAll.get' (i := i) b (by simpa using e)
      exact ⟨v, by simpa using h1, h2⟩
theorem DpAll.append {K : PySem.W.Frag} {H : Hp} : ∀ {vs ws : List V} {ds es : List PyData}, DpAll K H vs ds → DpAll K H ws es → DpAll K H (vs ++ ws) (ds ++ es)
  | _, _, [], es, h, h' => by cases h; exact h'
  | _, _, d :: ds, es, h, h' => by
    cases h with
    | cons a b => exact .cons a (DpAll.append b h')
theorem DpAll.take {K : PySem.W.Frag} {H : Hp} : ∀ (n : Nat) {vs : List V} {ds : List PyData}, DpAll K H vs ds → DpAll K H (vs.take n) (ds.take n)
  | 0, _, _, _ => by simp; exact .nil
  | n + 1, _, [], h => by cases h; simp; exact .nil
  | n + 1, _, d :: ds, h => by
    cases h with
    | cons a b => simpa using DpAll.cons a (DpAll.take n b)
theorem DpAll.drop {K : PySem.W.Frag} {H : Hp} : ∀ (n : Nat) {vs : List V} {ds : List PyData}, DpAll K H vs ds → DpAll K H (vs.drop n) (ds.drop n)
  | 0, _, _, h => by simpa using h
  | n + 1, _, [], h => by cases h; simp; exact .nil
  | n + 1, _, d :: ds, h => by
    cases h with
    | cons a b => simpa using DpAll.drop n b
theorem DpAll.ints {K : PySem.W.Frag} {H : Hp} : ∀ (ns : List Int), DpAll K H (ns.map V.int) (ns.map PyData.int)
  | [] => .nil
  | n :: ns => .cons (.int n) (DpAll.ints ns)
theorem Dp.tupI {K : PySem.W.Frag} {H : Hp} {v : V} {ds : List PyData} (h : Dp K H v (.tuple ds)) : ∃ a xs, v = .ref a ∧ SqT K H a xs ∧ DpAll K H xs ds := by
  cases h with
  | tup a b => exact ⟨_, _, rfl, a, b⟩
theorem Dp.lstI {K : PySem.W.Frag} {H : Hp} {v : V} {ds : List PyData} (h : Dp K H v (.list ds)) : ∃ a xs, v = .ref a ∧ SqL K H a xs ∧ DpAll K H xs ds := by
  cases h with
  | lst a b => exact ⟨_, _, rfl, a, b⟩

end L2
namespace My
open PySem PySem.Spec PyProof.Rows L2
section
variable {X : Cx}
/-- repr(x), x data -/
def rRepr (K : PySem.W.Frag) : List V → Hp → VK → Prop := fun vs H Q => ∃ v d, vs = [v] ∧ Dp K H v d ∧ d.showable = true ∧ d.hasDict = false ∧ d.depth ≤ 60 ∧ d.shown.length ≤ sizeLine ∧ isDisplay d = true ∧ Q (.str d.shown) H
theorem cr_repr (hg : X.A.guards = some []) (hu : X.A.units + 64 < cLine) : CallR X (.builtin "repr") (rRepr X.K) := by
  intro pins s σ H vs us Q I r h
  obtain ⟨v, d, rfl, hd, h1, h2, h3, h4, h5, q⟩ := h
  obtain ⟨u, rfl, t⟩ : ∃ u, us = [u] ∧ RelV v u := by
    cases r with
    | cons a b => cases b; exact ⟨_, rfl, a⟩
  obtain ⟨as, hr⟩ := Dp.reads I d v u hd t
  obtain ⟨a, rfl⟩ := isRef_of_reads hr h5
  refine repr_of_reads' hr h1 (PyData.noDict_hsm h2) hg (by omega) (fun _ _ e => e) (fun h' u tk hk => ?_) h4
  exact ⟨.str _, H, I.kept hk, ⟨_, rfl⟩, q⟩
end
end My

set_option Elab.async false
set_option linter.all false
set_option maxRecDepth 100000
set_option maxHeartbeats 4000000
namespace My
open PySem PySem.Spec PyProof.Rows L2
/-! ### a def that is called where no text of a container is being written -/
structure FnG (P : Program) (w : World) (K : PySem.W.Frag) (mg : Str → Option Value) (base : Heap) (CX : CXT) (k : Nat) (f : Addr) (fd : FuncData) (ps : List Str) (sp : Sp) : Prop where
  size : ∀ vs H Q E, sp vs H Q E → vs.length = ps.length
  go : ∀ (A : Around) (out : List Env) (s : Shared) (H : Hp) (ar : Args) (us : List Value) (vs : List V) (Q : VK) (E : XK),
    A.guards = some [] → Room k A → Env0 P w K mg base A out s H → BindsTo s fd ar (ps.zip us) → Vals vs us → sp vs H Q E →
    codeAny (model P w) A (.call (.ref f) ar) (CR CX out P w H s Q E) s
theorem FnG.of {P : Program} {w : World} {K : PySem.W.Frag} {mg : Str → Option Value} {base : Heap} {CX : CXT} {k : Nat} {f : Addr} {fd : FuncData} {ps : List Str} {sp : Sp}
    (F : FnOk P w K mg base CX k f fd ps sp) : FnG P w K mg base CX k f fd ps sp :=
  ⟨F.len, fun A out s H ar us vs Q E _ hr e b v h => F.run A out s H ar us vs Q E hr e b v h⟩
section
variable {P : Program} {w : World} {K : PySem.W.Frag} {mg : Str → Option Value} {base : Heap}
theorem fun_g {CX : CXT} {x qual : Str} {st : Stmt} {f : Addr} {fd : FuncData} {N ps : List Str} {k : Nat} {sp : Sp} (F : Fun K x qual st f fd) (S : FnScope N ps (defScope st))
    (size : ∀ vs H Q E, sp vs H Q E → vs.length = ps.length)
    (body : ∀ (cdv : Value) (A : Around) (out : List Env) (s : Shared) (H : Hp) (vs : List V) (Q : VK) (E : XK), fd.code = cdv → A.guards = some [] →
      Room k (A.deeper (envOfC qual (defScope st) s.heap.objs.size f cdv)) → sp vs H Q E →
      ∃ t, PSs (cxOf CX P w K mg base N qual (defScope st) f cdv A out s H E).nox (defBody st) t ∧ t { nx := fun _ H' => Q .non H', rt := Q } (start N vs) H) :
    FnG P w K mg base CX (k + 1) f fd ps sp := by
  obtain ⟨oc, od, kV, doc, pm, an, cdv, ct, osl, rfl, lk, hcd⟩ := F.ex
  exact ⟨size, fun A out s H ar us vs Q E hg hr e0 hb r h =>
    LamX.run_ofS lk hcd S hr e0 hb r (size _ _ _ _ h) fun hr' => by
      obtain ⟨t, ht, q⟩ := body cdv A out s H vs Q E rfl hg hr' h
      exact ⟨t, ht.nox, q⟩⟩
end
section
variable {X : Cx} {CX : CXT} {k : Nat} {f : Addr} {fd : FuncData} {ps : List Str} {sp : Sp} {E : XK} {x : Str} {p pos : Pos} {e : Expr} {es : List Expr} {t : TA}
theorem run_g {pins : List (Addr × Obj)} {σ : L2.St} {H : Hp} {s : Shared} {Q : VK} {us : List Value} {vs : List V} (F : FnG X.prog X.w X.K X.mg X.base CX k f fd ps sp)
    (hg : X.A.guards = some []) (hr : Room k X.A) (hb : Binds X.K fd ps []) (hx : Passes CX X E) (I : Inv X pins σ H s) (r : Vals vs us) (h : sp vs H Q E) :
    wpAny (model X.prog X.w) X.A (call (.ref f) us) (EP X pins σ Q) X.xe s := by
  have n : (us ++ []).length = ps.length := by
    rw [List.append_nil, ← r.length]
    exact F.size _ _ _ _ h
  have b := hb s us I.kIn n
  rw [List.append_nil] at b
  refine wpAny_call (codeAny_mono (F.go X.A X.stack s H ⟨us, []⟩ us vs Q E hg hr I.env0 b r h) fun q s' hq => ?_)
  match q, hq with
  | .error e, hq => exact hx pins σ H s e s' I hq
  | .ok (.ret u), hq => exact I.after hq
theorem pe_callG (F : FnG X.prog X.w X.K X.mg X.base CX k f fd ps sp) (hgd : X.A.guards = some []) (hr : Room k X.A) (hg : Gl X x) (hm : X.mg x = some (.ref f))
    (hk : PySem.W.keepIn X.K (.ref f) = true) (hb : Binds X.K fd ps []) (hx : Passes CX X E) (ha : PA X (e :: es) t) (hdb : (x == ("__debug__" : Str)) = false := by decide)
    (he : starEach (e :: es) X.env = (false, eval e X.env) :: starEach es X.env := by rfl) (hpl : (backTo pos (starEach es X.env)).any (·.1) = false := by rfl) :
    PE X (.Call (.Name x p) (e :: es) [] pos) (tCall sp [] E t) := by
  refine ⟨fun pins s σ H Q I h => wpAny_Call_Name_kw (ld_glob I hg hm ?_ hdb)⟩
  refine PySem.W.callWith_K (h₀ := X.base) I.ok.mod.kin hk (thn (ha.run pos pins s σ H _ I h) fun us s1 z => ?_) he hpl
  obtain ⟨vs, H1, I1, r, q⟩ := z
  rw [List.append_nil] at q
  exact ⟨I1.kIn, run_g F hgd hr hb hx I1 r q⟩
theorem pe_callG0 (F : FnG X.prog X.w X.K X.mg X.base CX k f fd ps sp) (hgd : X.A.guards = some []) (hr : Room k X.A) (hg : Gl X x) (hm : X.mg x = some (.ref f))
    (hk : PySem.W.keepIn X.K (.ref f) = true) (hb : Binds X.K fd ps []) (hx : Passes CX X E) (hdb : (x == ("__debug__" : Str)) = false := by decide) :
    PE X (.Call (.Name x p) [] [] pos) (tCall sp [] E tNil) := by
  refine ⟨fun pins s σ H Q I h => wpAny_Call_Name_kw (ld_glob I hg hm ?_ hdb)⟩
  exact PySem.W.callWith_K0 I.kIn hk (run_g (us := []) (vs := []) F hgd hr hb hx I .nil h)
end
/-! ### the end: the law's call, where nothing is being written -/
section
variable {P : Program} {w : World} {K : PySem.W.Frag} {mg mb : Str → Option Value} {CX : CXT} {k : Nat} {fa a : Addr} {cs : List (Addr × Addr)} {fd : FuncData} {x : Str} {sp : Sp} {s₁ : Shared} {vs : List Value} {ns : List Int}
abbrev LawEnd (s₁ : Shared) (r : Result) (s' : Shared) : Prop := r = .ok (.ret (.bool true)) ∧ OldK s₁.heap s'.heap ∧ s'.os = s₁.os ∧ AllBare s'.gens
abbrev tabs (cs : List (Addr × Addr)) : List Addr := cs.map fun p => p.2
theorem law_core (H : Hp) (KX : K.In s₁.heap) (hns : s₁.heap.Ns mainGlobals mg) (hb : s₁.heap.Ns builtinsNs mb) (hbb : ∀ x : Str, x ≠ "__name__" → mb x = bootBuiltins x)
    (hlim : s₁.heap.NoLimit) (hg : s₁.gens = #[]) (hT : ∀ b ∈ tabs cs, s₁.heap.get? b = some { cls := .none, data := .fields #[] }) (nT : ∀ b ∈ tabs cs, K.lookup b = none)
    (C : ∀ p ∈ cs, PySem.W.CodeHd s₁.heap p.1 p.2)
    (hbm : ∃ (bm : Addr) (ob : Obj), mg "__builtins__" = some (.ref bm) ∧ bm ≠ builtinsNs ∧ s₁.heap.get? bm = some ob ∧ ob.cls = .type "module" ∧ ob.dict = some builtinsNs ∧ ob.data = .plain)
    (ha : s₁.heap.get? a = some { cls := .type "list", data := .seq vs.toArray }) (hr : Room k callerA)
    (F : ∀ base : Heap, K.In base → base.Ns mainGlobals mg → (∀ p ∈ cs, LamX.TabB base mg p.1 p.2) → FnG P w K mg base CX k fa fd [x] sp)
    (hbind : ∀ (s : Shared) (u : Value), BindsTo s fd ⟨[u], []⟩ [(x, u)]) (hsp : sp [.ref a] H (fun v _ => v = .bl true) fun _ _ _ => False)
    (hCX : ∀ H e s', CX [] H s₁ (fun _ _ _ => False) e s' → False) (hH : ∀ b ∈ tabs cs, H b = some (.tbl #[]))
    (hO : ∀ b, H b = none ∨ b ∈ tabs cs ∨ ∃ o xs, H b = some (.frz o (.lst xs))) (hok : HOk P w H s₁.heap) (hA : ∀ b, H b ≠ none → b = a ∨ b ∈ tabs cs) (hK : H a ≠ none → K.lookup a = none) :
    codeAny (model P w) callerA (.call (.ref fa) ⟨[.ref a], []⟩) (LawEnd s₁) s₁ := by
  have plain : ∀ {b : Addr} {o : Obj}, s₁.heap.get? b = some o → (∀ us n, o.data ≠ .seq us n) → o.data ≠ .fields #[] → H b = none := by
    intro b o e n1 n2
    cases q : H b with
    | none => rfl
    | some u =>
      rcases hA b (by rw [q]; simp) with z | z
      · subst z
        rw [ha] at e
        cases e
        exact absurd rfl (n1 _ _)
      · rw [hT b z] at e
        cases e
        exact absurd rfl n2
  have dict : ∀ {b : Addr} {o : Obj} {es : Array DictEntry} {ep : Nat}, s₁.heap.get? b = some o → o.data = .dict es ep → H b = none :=
    fun {b o es ep} e d => plain e (fun us n z => by rw [d] at z; cases z) (fun z => by rw [d] at z; cases z)
  have low : ∀ {b : Addr} {m : Str → Option Value}, s₁.heap.Ns b m → (hidT s₁.heap H).Ns b m :=
    fun {b m} ⟨o, es, ep, e, d, r⟩ => ⟨o, es, ep, hidT_get e (dict e d), d, r⟩
  have lowK : K.In (hidT s₁.heap H) := by
    intro b o e
    refine hidT_get (KX b o e) ?_
    cases q : H b with
    | none => rfl
    | some u =>
      rcases hA b (by rw [q]; simp) with z | z
      · subst z
        rw [hK (by rw [q]; simp)] at e
        cases e
      · rw [nT b z] at e
        cases e
  have M : L2.Mod K mg (hidT s₁.heap H) := by
    obtain ⟨mc, l1, l2⟩ := hlim
    exact ⟨lowK, low hns, ⟨mb, low hb, hbb⟩, mc, low l1, l2⟩
  have TB : ∀ p ∈ cs, LamX.TabB (hidT s₁.heap H) mg p.1 p.2 := by
    intro p hp
    have hTp := hT p.2 (List.mem_map.mpr ⟨p, hp, rfl⟩)
    have one : PySem.W.CodeHd (hidT s₁.heap H) p.1 p.2 := by
      obtain ⟨o, us, file, tf, flags, tg, inF, text, tt, e1, r1, r2, r3, r⟩ := C p hp
      refine ⟨o, us, file, tf, flags, tg, inF, text, tt, hidT_get e1 (plain e1 (fun vs n z => ?_) fun z => ?_), r1, r2, r3, r⟩
      · rw [r2] at z
        cases z
      · rw [r2] at z
        cases z
        simp at r3
    obtain ⟨bm, ob, b1, b2, b3, b4, b5, b6⟩ := hbm
    have far : bm ≠ mainGlobals := by
      rintro rfl
      obtain ⟨o, es, ep, e, hd, _⟩ := hns
      rw [e] at b3
      cases b3
      rw [hd] at b6
      cases b6
    have off : bm ≠ p.2 := by
      rintro rfl
      rw [hTp] at b3
      cases b3
      cases b6
    have two : mainGlobals ≠ p.2 := by
      intro z
      obtain ⟨o, es, ep, e, hd, _⟩ := hns
      rw [z, hTp] at e
      cases e
      cases hd
    exact ⟨one, ⟨bm, ob, b1, b2, far, off, hidT_get b3 (plain b3 (fun vs n z => by rw [b6] at z; cases z) (fun z => by rw [b6] at z; cases z)), b4, b5, b6⟩, two⟩
  have e0 : Env0 P w K mg (hidT s₁.heap H) callerA [] s₁ H := by
    refine ⟨rfl, M, fun b o e => of_hidT e, Nat.le_of_eq (hidT_size _ _), trivial, fun b z => ?_, hok, .of_eq hg⟩
    have z' : b ∈ ([] : List Addr) := z
    cases z'
  have run := (F _ lowK (low hns) TB).go callerA [] s₁ H ⟨[.ref a], []⟩ [.ref a] [.ref a] _ _ rfl hr e0 (hbind s₁ (.ref a)) (.cons rfl .nil) hsp
  refine codeAny_mono run fun r s' h => ?_
  match r, h with
  | .error e, h => exact (hCX H e s' h).elim
  | .ok (.ret u), h =>
    obtain ⟨v, H', os, bare, un, hok', r', q⟩ := h
    have q' : v = .bl true := q
    subst q'
    obtain rfl : u = Value.bool true := r'
    have old : ∀ b o, b ∉ tabs cs → s₁.heap.get? b = some o → s'.heap.get? b = some o := by
      intro b o nb e
      cases q : H b with
      | none =>
        refine un.keep b o e q (fun z => ?_) (by simp)
        have z' : b ∈ ([] : List Addr) := z
        cases z'
      | some u =>
        rcases hO b with z | z | ⟨ob, xs, z⟩
        · rw [q] at z
          cases z
        · exact absurd z nb
        · obtain ⟨e1, _⟩ := hok b _ z
          obtain ⟨e2, _⟩ := hok' b _ (un.frzs b ob _ z)
          rw [e] at e1
          cases e1
          exact e2
    have more : ∀ p ∈ cs, ∃ vs : Array Value, s'.heap.get? p.2 = some { cls := .none, data := .fields vs } := by
      intro p hp
      obtain ⟨vs, z⟩ := un.tbls p.2 #[] (hH p.2 (List.mem_map.mpr ⟨p, hp, rfl⟩))
      exact ⟨_, hok' p.2 _ z⟩
    refine ⟨rfl, ⟨fun b o e => ?_, fun b o e => ?_⟩, os, bare⟩
    · by_cases z : b ∈ tabs cs
      · obtain ⟨p, hp, ep⟩ := List.mem_map.mp z
        subst ep
        obtain ⟨vs, hm⟩ := more p hp
        have hTp := hT p.2 z
        have tab := ((C p hp).tab hTp).isCodeTable
        rw [hTp] at e
        cases e
        refine .inr (.inl ⟨tab, rfl, #[], vs, rfl, ?_⟩)
        rw [Array.empty_append]
        exact hm
      · exact .inl (old b o z e)
    · by_cases z : b ∈ tabs cs
      · obtain ⟨p, hp, ep⟩ := List.mem_map.mp z
        subst ep
        obtain ⟨vs, hm⟩ := more p hp
        exact ⟨_, hm⟩
      · exact ⟨o, old b o z e⟩
theorem law_callG (KX : K.In s₁.heap) (hns : s₁.heap.Ns mainGlobals mg) (hb : s₁.heap.Ns builtinsNs mb) (hbb : ∀ x : Str, x ≠ "__name__" → mb x = bootBuiltins x)
    (hlim : s₁.heap.NoLimit) (hg : s₁.gens = #[]) (hT : ∀ b ∈ tabs cs, s₁.heap.get? b = some { cls := .none, data := .fields #[] }) (nT : ∀ b ∈ tabs cs, K.lookup b = none)
    (C : ∀ p ∈ cs, PySem.W.CodeHd s₁.heap p.1 p.2)
    (hbm : ∃ (bm : Addr) (ob : Obj), mg "__builtins__" = some (.ref bm) ∧ bm ≠ builtinsNs ∧ s₁.heap.get? bm = some ob ∧ ob.cls = .type "module" ∧ ob.dict = some builtinsNs ∧ ob.data = .plain)
    (ha : s₁.heap.get? a = some { cls := .type "list", data := .seq vs.toArray }) (hi : IntsAre vs ns) (hl : ns.length ≤ sizeLine) (hr : Room k callerA)
    (F : ∀ base : Heap, K.In base → base.Ns mainGlobals mg → (∀ p ∈ cs, LamX.TabB base mg p.1 p.2) → FnG P w K mg base CX k fa fd [x] sp)
    (hbind : ∀ (s : Shared) (u : Value), BindsTo s fd ⟨[u], []⟩ [(x, u)])
    (hsp : ∀ H : Hp, (∀ b ∈ tabs cs, H b = some (.tbl #[])) → SqL K H a (ns.map V.int) → sp [.ref a] H (fun v _ => v = .bl true) fun _ _ _ => False)
    (hCX : ∀ H e s', CX [] H s₁ (fun _ _ _ => False) e s' → False) :
    codeAny (model P w) callerA (.call (.ref fa) ⟨[.ref a], []⟩) (LawEnd s₁) s₁ := by
  have rv := vals_ints hi
  have lv := hi.length
  have aT : a ∉ tabs cs := by
    intro z
    have e := hT a z
    rw [ha] at e
    have e' := congrArg Obj.data (Option.some.inj e)
    cases e'
  let tb : Hp := fun b => if b ∈ tabs cs then some (.tbl #[]) else none
  have tbI : ∀ b ∈ tabs cs, tb b = some (.tbl #[]) := fun b z => if_pos z
  have tbO : ∀ b, b ∉ tabs cs → tb b = none := fun b z => if_neg z
  cases hk : K.lookup a with
  | some o =>
    have e := KX a o hk
    rw [ha] at e
    cases e
    refine law_core tb KX hns hb hbb hlim hg hT nT C hbm ha hr F hbind (hsp tb tbI ?_) hCX tbI (fun b => ?_) (fun b u z => ?_) (fun b z => ?_) fun z => ?_
    · exact .inr ⟨_, vs.toArray, _, hk, rfl, rfl, rfl, by rw [List.size_toArray, lv]; exact hl, by simpa using rv⟩
    · by_cases h : b ∈ tabs cs
      · exact .inr (.inl h)
      · exact .inl (tbO b h)
    · by_cases h : b ∈ tabs cs
      · rw [tbI b h] at z
        cases z
        exact hT b h
      · rw [tbO b h] at z
        cases z
    · by_cases h : b ∈ tabs cs
      · exact .inr h
      · exact absurd (tbO b h) z
    · exact absurd (tbO a aT) z
  | none =>
    let H : Hp := fun b => if b = a then some (.frz { cls := .type "list", data := .seq vs.toArray } (.lst (ns.map V.int))) else tb b
    have Ha : H a = some (.frz { cls := .type "list", data := .seq vs.toArray } (.lst (ns.map V.int))) := if_pos rfl
    have Hn : ∀ b, b ≠ a → H b = tb b := fun b z => if_neg z
    have HT : ∀ b ∈ tabs cs, H b = some (.tbl #[]) := fun b z => (Hn b fun e => aT (e ▸ z)).trans (tbI b z)
    refine law_core H KX hns hb hbb hlim hg hT nT C hbm ha hr F hbind (hsp H HT (.inl (.inr ⟨_, Ha⟩))) hCX HT (fun b => ?_) (fun b u z => ?_) (fun b z => ?_) fun _ => hk
    · by_cases e : b = a
      · subst e
        exact .inr (.inr ⟨_, _, Ha⟩)
      · by_cases h : b ∈ tabs cs
        · exact .inr (.inl h)
        · exact .inl ((Hn b e).trans (tbO b h))
    · by_cases e : b = a
      · subst e
        rw [Ha] at z
        cases z
        exact ⟨ha, by rw [List.length_map]; exact hl, vs, _, rv, ha⟩
      · rw [Hn b e] at z
        by_cases h : b ∈ tabs cs
        · rw [tbI b h] at z
          cases z
          exact hT b h
        · rw [tbO b h] at z
          cases z
    · by_cases e : b = a
      · exact .inl e
      · by_cases h : b ∈ tabs cs
        · exact .inr h
        · exact absurd ((Hn b e).trans (tbO b h)) z
end
/-- what is to be told of the law at the head's heap h -/
def LawAtG (l : PySem.W.OpenLaw) (w : World) (K : PySem.W.Frag) (CX : CXT) (k n : Nat) (x : Str) (mg : Str → Option Value) (fa : Addr) (h : Heap) : Prop :=
  ∃ (fd : FuncData) (cs : List (Addr × Addr)) (sp : Sp), (∀ b ∈ tabs cs, h.get? b = some { cls := .none, data := .fields #[] }) ∧ (∀ b ∈ tabs cs, K.lookup b = none) ∧
    (∀ p ∈ cs, PySem.W.CodeHd h p.1 p.2) ∧ (∀ (s : Shared) (u : Value), BindsTo s fd ⟨[u], []⟩ [(x, u)]) ∧
    (∀ (H : Hp) (a : Addr) (ns : List Int), ns.length ≤ n → (∀ z ∈ ns, Builtin.Int.intBits z ≤ 1048576) → (∀ b ∈ tabs cs, H b = some (.tbl #[])) → SqL K H a (ns.map V.int) →
      sp [.ref a] H (fun v _ => v = .bl true) fun _ _ _ => False) ∧
    ∀ base : Heap, K.In base → base.Ns mainGlobals mg → (∀ p ∈ cs, LamX.TabB base mg p.1 p.2) → FnG l.prog w K mg base CX k fa fd [x] sp
theorem walk_g {l : PySem.W.OpenLaw} {n k : Nat} {q : Program} {loose : List Str} {XP : (Str → Option Value) → Heap → Prop} {YP : World → Heap → Prop} {d : DefRec} {CX : World → CXT} {x : Str}
    (hn : l.most = some n) (hn2 : n ≤ sizeLine) (hdf : d.params.defaults = []) (hr : Room k callerA)
    (F : ∀ (w : World) (mg : Str → Option Value) (fa : Addr) (h : Heap), YP w h → h.Ns mainGlobals mg → mg d.name = some (.ref fa) →
      ∃ K : PySem.W.Frag, K.In h ∧ LawAtG l w K (CX w) k n x mg fa h)
    (hCX : ∀ (w : World) (H : Hp) (s : Shared) (e : Value) (s' : Shared), CX w [] H s (fun _ _ _ => False) e s' → False) :
    PySem.W.WalkO q loose XP YP l.row.toRowW d [] (fun f vs => PySem.call f vs) := by
  refine Att.attach_callB hn hdf fun w s₀ s₁ mg mb fa o pm cd doc a vs ns G Y ho hd hcd hmg hobj hints hlen hbits hg => ?_
  obtain ⟨K, KX, fd, cs, sp, hT, nT, C, hb, hsp, hF⟩ := F w mg fa _ Y G.T.g hmg
  exact law_callG KX G.T.g G.T.b G.T.builtins G.T.nolimit hg hT nT C G.T.bmain hobj hints (Nat.le_trans hlen hn2) hr hF hb
    (fun H hH hS => hsp H a ns hlen hbits hH hS) fun H e s' => hCX w H s₁ e s'
end My

set_option Elab.async false
set_option linter.all false
set_option maxRecDepth 100000
set_option maxHeartbeats 4000000
namespace My
open PySem PySem.Spec PyProof.Rows L2
/-! ### a def by its name, its promise kept -/
def Ce (P : Program) (w : World) (K : PySem.W.Frag) (mg : Str → Option Value) (base : Heap) (CX : CXT) (k : Nat) (x : Str) (ps : List Str) (sp : Sp) : Prop :=
  ∃ (f : Addr) (fd : FuncData), FnOk P w K mg base CX k f fd ps sp ∧ PySem.W.keepIn K (.ref f) = true ∧ Binds K fd ps [] ∧ mg x = some (.ref f)
def CeG (P : Program) (w : World) (K : PySem.W.Frag) (mg : Str → Option Value) (base : Heap) (CX : CXT) (k : Nat) (x : Str) (ps : List Str) (sp : Sp) : Prop :=
  ∃ (f : Addr) (fd : FuncData), FnG P w K mg base CX k f fd ps sp ∧ PySem.W.keepIn K (.ref f) = true ∧ Binds K fd ps [] ∧ mg x = some (.ref f)
section
variable {X : Cx} {CX : CXT} {k : Nat} {ps : List Str} {sp : Sp} {E : XK} {x : Str} {p pos : Pos} {e : Expr} {es : List Expr} {t : TA}
theorem pe_ce (c : Ce X.prog X.w X.K X.mg X.base CX k x ps sp) (hr : Room k X.A) (hx : Passes CX X E) (ha : PA X (e :: es) t) (hg : Gl X x := by rfl) (hdb : (x == ("__debug__" : Str)) = false := by decide)
    (he : starEach (e :: es) X.env = (false, eval e X.env) :: starEach es X.env := by rfl) (hpl : (backTo pos (starEach es X.env)).any (·.1) = false := by rfl) :
    PE X (.Call (.Name x p) (e :: es) [] pos) (tCall sp [] E t) := by
  obtain ⟨f, fd, F, kp, b, m⟩ := c
  exact pe_call F hr hg m kp b .nil hx ha hdb he hpl
theorem pe_ce0 (c : Ce X.prog X.w X.K X.mg X.base CX k x ps sp) (hr : Room k X.A) (hx : Passes CX X E) (hg : Gl X x := by rfl) (hdb : (x == ("__debug__" : Str)) = false := by decide) :
    PE X (.Call (.Name x p) [] [] pos) (tCall sp [] E tNil) := by
  obtain ⟨f, fd, F, kp, b, m⟩ := c
  exact pe_call0 F hr hg m kp b .nil hx hdb
theorem pe_ceG (c : CeG X.prog X.w X.K X.mg X.base CX k x ps sp) (hr : Room k X.A) (hgd : X.A.guards = some []) (hx : Passes CX X E) (ha : PA X (e :: es) t) (hg : Gl X x := by rfl) (hdb : (x == ("__debug__" : Str)) = false := by decide)
    (he : starEach (e :: es) X.env = (false, eval e X.env) :: starEach es X.env := by rfl) (hpl : (backTo pos (starEach es X.env)).any (·.1) = false := by rfl) :
    PE X (.Call (.Name x p) (e :: es) [] pos) (tCall sp [] E t) := by
  obtain ⟨f, fd, F, kp, b, m⟩ := c
  exact pe_callG F hgd hr hg m kp b hx ha hdb he hpl
theorem pe_ceG0 (c : CeG X.prog X.w X.K X.mg X.base CX k x ps sp) (hr : Room k X.A) (hgd : X.A.guards = some []) (hx : Passes CX X E) (hg : Gl X x := by rfl) (hdb : (x == ("__debug__" : Str)) = false := by decide) :
    PE X (.Call (.Name x p) [] [] pos) (tCall sp [] E tNil) := by
  obtain ⟨f, fd, F, kp, b, m⟩ := c
  exact pe_callG0 F hgd hr hg m kp b hx hdb
end
theorem fun_ofD {K : PySem.W.Frag} {x qual : Str} {st : Stmt} {f : Addr} {fd : FuncData} (kp : PySem.W.keepIn K (.ref f) = true) (F : FunD K x qual (defArgs st) (defBody st) (defScope st) [] [] f fd) : Fun K x qual st f fd := by
  obtain ⟨oc, od, dV, kV, doc, pm, an, cdv, ct, osl, e, lk, hc, hd, hk⟩ := F.ex
  rcases hd with ⟨_, e2⟩ | ⟨z, _⟩
  · subst e2
    exact ⟨⟨oc, od, kV, doc, pm, an, cdv, ct, osl, e, lk, hc⟩, kp⟩
  · exact absurd rfl z
theorem un64 {k : Nat} {A : Around} (hr : Room k A) : A.units + 64 < cLine := by
  have := hr.un
  omega
section
variable {X : Cx}
/-- lcm -/
def rLcm : List V → Hp → VK → Prop := fun vs H Q => ∃ a b : Int, vs = [.int a, .int b] ∧ a.natAbs.log2 < 13000 ∧ b.natAbs.log2 < 13000 ∧ Q (.int ((Nat.lcm a.natAbs b.natAbs : Nat) : Int)) H
theorem log_max {a b n : Nat} (ha : a.log2 < n) (hb : b.log2 < n) : (max a b).log2 < n := by
  rcases Nat.le_total a b with h | h
  · rw [Nat.max_eq_right h]; exact hb
  · rw [Nat.max_eq_left h]; exact ha
theorem lt_two {a n : Nat} (h : a.log2 < n) : a < 2 ^ n := by
  by_cases z : a = 0
  · subst z; exact Nat.two_pow_pos n
  · exact (Nat.log2_lt z).mp h
theorem log_of {a n : Nat} (h0 : 0 < n) (h : a < 2 ^ n) : a.log2 < n := PySem.Flt.log2_lt_of h0 h
theorem cr_lcm : CallR X (.builtin "math.lcm") rLcm := by
  intro pins s σ H vs us Q I r h
  obtain ⟨a, b, rfl, ha, hb, q⟩ := h
  obtain ⟨t, u, rfl⟩ := Vals.int2 r
  have e : (Nat.lcm 1 a.natAbs).lcm b.natAbs = Nat.lcm a.natAbs b.natAbs := by rw [Nat.lcm_one_left]
  have h1 := log_max (a := 1) (by decide : (1 : Nat).log2 < 13000) ha
  have h2 := log_max ha hb
  have h3 : (Nat.lcm a.natAbs b.natAbs) ≤ a.natAbs * b.natAbs := by
    unfold Nat.lcm
    exact Nat.div_le_self _ _
  have h4 : Nat.lcm a.natAbs b.natAbs < 2 ^ 26000 := by
    refine Nat.lt_of_le_of_lt h3 ?_
    have := Nat.mul_lt_mul'' (lt_two ha) (lt_two hb)
    rw [← Nat.pow_add] at this
    exact this
  have h5 := log_of (by decide) h4
  have e2 : bitsLine = 134217728 := by decide
  refine call_function_meets PySem.W.MGF.kind_lcm PySem.W.MGF.plain_lcm PySem.W.MGF.entry_lcm (PySem.W.MGF.args_lcm _ _) (PySem.W.mg_run_lcm a t b u (by omega) (by omega) (by rw [e]; show (Int.natAbs ((Nat.lcm a.natAbs b.natAbs : Nat) : Int)).log2 < _; rw [Int.natAbs_natCast, e2]; omega)).meets ?_
  rw [e]
  exact ⟨.int _, H, I.tok _, ⟨_, rfl⟩, q⟩
/-- x *= e -/
theorem ip_mulW : PIp X .Mult (rI CMulW fun i j => .int (i * j)) := by
  intro pins s σ H x y v u Q I rx ry h
  obtain ⟨i, j, rfl, rfl, hc, q⟩ := h
  obtain ⟨t, rfl⟩ := rx
  obtain ⟨t2, rfl⟩ := ry
  exact imul_int ⟨.int _, H, I.tok _, ⟨_, rfl⟩, q⟩ hc.ok
/-- what passes through a def that may raise -/
theorem passX {P : Program} {w : World} {K : PySem.W.Frag} {mg : Str → Option Value} {base : Heap} {N : List Str} {qual : Str} {sc : Scope} {f : Addr} {cd : Value} {A : Around} {outer : List Env} {s : Shared} {H : Hp} {E : XK} :
    Passes (L2.CX P w) (cxOf (L2.CX P w) P w K mg base N qual sc f cd A outer s H E) E :=
  passes_call (takes_of rfl rfl rfl rfl) (fun _ _ _ _ h => h)
end
end My

set_option Elab.async false
set_option linter.all false
set_option maxRecDepth 100000
set_option maxHeartbeats 4000000
namespace My
open PySem PySem.Spec PyProof.Rows L2
/-! ### enumerate of a tuple -/
theorem enum_new {v : Value} {o : Obj} {Z : Heap → Prop} (B : Begins v o Z) :
    Meets (Builtin.«enumerate.__new__» ⟨[.type "enumerate", v], []⟩) (fun _ R s => Z s.heap ∧
      R (.ok (.ret (.ref (s.heap.push o).objs.size)))
        { s with heap := (s.heap.push o).push { cls := .type "enumerate", data := .fields #[.none, .bool false, .ref s.heap.objs.size, rawInt 0, .none, .none] } }) :=
  .of_wp fun prog w A R s h => by
    obtain ⟨hp, g, d, tk, os⟩ := s
    obtain ⟨z, h⟩ := h
    have sub := sub_enumerate
    have it : ∀ {A' : Around} {E : Value → Shared → Prop} {Q : Value → Shared → Prop}, Q (.ref hp.objs.size) ⟨hp.push o, g, d, tk, os⟩ → wpAny (model prog w) A' (pyIter v) Q E ⟨hp, g, d, tk, os⟩ :=
      fun q => B.iter prog w _ _ ⟨hp, g, d, tk, os⟩ _ z q
    wp_walk using it
    refine wpAny_stack_any fun st => wpAny_pure ?_
    split
    · rename_i c _ _ _ _ _
      cases c == Value.type "enumerate" <;> (wp_walk using it; exact ⟨_, rfl, h⟩)
    · wp_walk using it
      exact ⟨_, rfl, h⟩
section
variable {prog : Program} {w : World} {A : Around} {E : Value → Shared → Prop} {s : Shared}
theorem enum_starts {v : Value} {o : Obj} {Z : Heap → Prop} {Q : Value → Shared → Prop} (B : Begins v o Z) (z : Z s.heap)
    (h : ∀ h', IsEnum h' (s.heap.objs.size + 1) s.heap.objs.size 0 .none → h'.get? s.heap.objs.size = some o → (∀ b o, s.heap.get? b = some o → h'.get? b = some o) → Q (.ref (s.heap.objs.size + 1)) { s with heap := h' }) :
    wpAny (model prog w) A (call (.type "enumerate") [v]) Q E s := by
  refine callType_new F.called_enumerate (by decide) (F.typeCall_enumerate_1 _) (F.newCall_enumerate_1 _) (fun obj => F.args_object_init_2 obj _) F.entry_enumerate_new (enum_new B) ⟨z, ?_⟩
  have n : (s.heap.push o).objs.size = s.heap.objs.size + 1 := Heap.size_push ..
  show _ ∧ _
  rw [n]
  have e := Heap.get?_push_size (s.heap.push o) (o := { cls := .type "enumerate", data := .fields #[.none, .bool false, .ref s.heap.objs.size, rawInt 0, .none, .none] }) rfl
  rw [n] at e
  exact ⟨⟨_, e, rfl⟩, h _ e (Heap.get?_push_of_some _ (Heap.get?_push_size _ B.free)) fun b u x => Heap.get?_push_of_some _ (Heap.get?_push_of_some _ x)⟩
theorem enum_ends {e it t : Addr} {i : Nat} {c : Int} {items : Array Value} {old : Value} {Q : Option Value → Shared → Prop} (hh : A.handled = none)
    (he : IsEnum s.heap e it c old) (hit : s.heap.IsTupleIter it t i) (ht : s.heap.IsTuple t items) (hx : items[i]? = none) (hQ : ∀ h', Heap.ExtBut it s.heap h' → Q none { s with heap := h' }) :
    wpAny (model prog w) A (pyNext (.ref e)) Q E s := by
  have T : s.TypeIs (.ref e) "enumerate" := ⟨_, he, rfl⟩
  unfold pyNext
  refine wpAny_bind (wpAny_attempt (wpAny_callSpecial?_slot (name := Str.ofString "__next__") T F.slot_enumerate_next (wpAny_call_entry F.slot_enumerate_next T F.entry_enumerate_next ?_ (F.args_enumerate_next_1 _))))
  show wpAny _ _ (field (.ref e) 2 >>= _) _ _ _
  refine wpAny_bind (wpAny_field he rfl (x := .ref it) rfl ?_)
  refine wpAny_bind (wpAny_nextOf_tuple_end (A := A.in1) hh hit ht hx fun h' x b1 b2 => ?_)
  obtain ⟨o, ho, hc⟩ := b2
  refine wpAny_bind (wpAny_isInstance (T := "StopIteration") (b := true) ⟨o, ho, hc⟩ isSubtype_stop ?_)
  exact wpAny_pure (hQ _ b1)
end
/-- the tuple at a, each item in a new pair with its place -/
def IteT (K : PySem.W.Frag) (a : Addr) : It :=
  ⟨fun i H => ∃ (xs : List V) (x : V), SqT K H a xs ∧ xs[i]? = some x,
    fun i H v H' => ∃ T x, v = .ref T ∧ H T = none ∧ H' = upd H T (.tup [.int (i : Nat), x]) ∧ ∀ xs, SqT K H a xs → xs[i]? = some x,
    fun i H => ∃ xs : List V, SqT K H a xs ∧ xs.length ≤ i⟩
theorem turn_enumT {P : Program} {w : World} {K : PySem.W.Frag} {elts : List Expr} {kk : Nat} {tpos : Pos} (a e it : Addr) :
    Turn P w K (.Tuple elts kk tpos) (IteT K a) [e, it] e (fun i h => (∃ old, IsEnum h e it ((i : Nat) : Int) old) ∧ h.IsTupleIter it a i ∧ e ≠ it ∧ a ≠ it ∧ a ≠ e) where
  mem := by simp
  obj := fun i h st b hb => by
    obtain ⟨⟨old, he⟩, ⟨o, ho, hc, hd⟩, _⟩ := st
    rcases (show b = e ∨ b = it by simpa using hb) with z | z
    · subst z
      exact ⟨_, he, fun v q => nomatch q⟩
    · subst z
      exact ⟨o, ho, fun v q => by rw [hd] at q; cases q⟩
  keep := fun i h h' st k => by
    obtain ⟨⟨old, he⟩, hi, hne⟩ := st
    exact ⟨⟨old, k e (by simp) _ he⟩, hi.at fun o q => k it (by simp) o q, hne⟩
  item := by
    intro X hP hw hK hc i pins s σ H E I hf st hg
    subst hP hw hK
    obtain ⟨⟨old, he⟩, hit, hne, hai, hae⟩ := st
    obtain ⟨xs, x, hq, hx⟩ := hg
    obtain ⟨its, rv, p, hz⟩ := I.tuple hq
    obtain ⟨u, hu, ru⟩ := rv.get hx
    have lx := (List.getElem?_eq_some_iff.mp hx).1
    have ll := rv.length
    have hel : e < s.heap.objs.size := Heap.lt_size he
    have hil : it < s.heap.objs.size := by
      obtain ⟨_, q, _⟩ := hit
      exact Heap.lt_size q
    have hT : s.heap.IsTuple a its.toArray := p
    refine wpAny_pyNext_enum_itemD (Draws.tuple (A := X.A.in1) (show X.A.in1.handled = none from I.ok.hd hc) it a hai its.toArray) he ⟨hit, hT⟩ (by rw [List.size_toArray]; omega) hne (by simp [hne, Ne.symm hae]) fun y h' tk hy ho st' hT' hsz hk => ?_
    have ey : y = u := by
      have e1 : its.toArray[i]? = some y := hy
      rw [List.getElem?_toArray, hu] at e1
      exact (Option.some.inj e1).symm
    subst ey
    refine ⟨_, rfl, wpAny_letOwnedTupleGo_enum (s := { s with heap := h', toks := tk + 1 }) ho fun h'' he' sb => ?_⟩
    have hT2 : h''.get? s.heap.objs.size = some { cls := .type "tuple", data := .seq #[.int i tk, y] } := (sb.2 _ (Nat.ne_of_gt hel)).trans hT'
    have new : ObjOk X.prog X.w (upd H s.heap.objs.size (.tup [.int (i : Nat), x])) h'' s.heap.objs.size (.tup [.int (i : Nat), x]) :=
      ⟨by show 2 ≤ sizeLine; decide, [.int i tk, y], .cons ⟨_, rfl⟩ (.cons ru .nil), ⟨_, hT2, rfl, _, rfl⟩⟩
    have I1 : Inv X pins σ (upd H s.heap.objs.size (.tup [.int (i : Nat), x])) { s with heap := h'', toks := tk + 1 } :=
      I.turnedNew (ch := [e, it]) (fun b ob hb q => (sb.2 b (fun z => hb (by simp [z]))).trans (hk b ob (fun z => hb (by simp [z])) (fun z => hb (by simp [z])) q)) hf (Nat.le_refl _) new
    refine ⟨.ref s.heap.objs.size, _, I1, rfl, ⟨_, x, rfl, I.hok.fresh (Nat.le_refl _), rfl, fun ys hy => by rw [I.tuple_inj hy hq]; exact hx⟩, ⟨⟨y, ?_⟩, st'.1.at fun o q => (sb.2 it (Ne.symm hne)).trans q, hne, hai, hae⟩, fun b hb => ?_⟩
    · have e1 : ((i + 1 : Nat) : Int) = (i : Int) + 1 := by omega
      rw [e1]
      exact he'
    · have hb' : b < s.heap.objs.size := by
        rcases (show b = e ∨ b = it by simpa using hb) with z | z
        · rw [z]; exact hel
        · rw [z]; exact hil
      rw [upd_ne (Nat.ne_of_lt hb')]
      exact (hf b hb).1
  done := by
    intro X hP hw hK hc i pins s σ H E I hf st hg
    subst hP hw hK
    obtain ⟨⟨old, he⟩, hit, hne, hai, hae⟩ := st
    obtain ⟨xs, hq, hx⟩ := hg
    obtain ⟨its, rv, p, hz⟩ := I.tuple hq
    obtain ⟨f0, f1, f2, f3, f4, f5⟩ := hf it (by simp)
    have hT : s.heap.IsTuple a its.toArray := p
    refine enum_ends (I.ok.hd hc) he hit hT (by rw [List.getElem?_toArray]; exact List.getElem?_eq_none_iff.mpr (by rw [← rv.length]; exact hx)) fun h' eb => ?_
    exact ⟨rfl, I.turned (t' := s.toks) (fun b o hb q => eb b o hb q) f0 f1 f3 f4 f5⟩
  self := fun A i s Q E st h => by
    obtain ⟨⟨_, he⟩, _⟩ := st
    exact wpAny_pyIter_enum he h
def iEnumT (K : PySem.W.Frag) (ta : TA) : TI := fun σ H R => ta σ H fun vs H1 => ∃ a xs, vs = [.ref a] ∧ SqT K H1 a xs ∧ R (IteT K a) H1
theorem pi_enumT {X : Cx} {e : Expr} {ta : TA} {p pos tpos : Pos} {elts : List Expr} {kk : Nat} (hg : Gl X "enumerate") (hm : X.mg "enumerate" = none) (ha : PA X [e] ta) (hs : starEach [e] X.env = [(false, eval e X.env)] := by rfl) :
    PI X (.Tuple elts kk tpos) (.Call (.Name "enumerate" p) [e] [] pos) (iEnumT X.K ta) := by
  refine ⟨fun pins s σ H R I h => ?_⟩
  refine Call_ (ld_blt I hg hm boot_enumerate (PyProof.Rows.callWith_type1 (thn (ha.run pos pins s σ H _ I h) fun us s1 z => ?_) hs rfl))
  obtain ⟨vs, H1, I1, r1, a, xs, ex, hq, q⟩ := z
  subst ex
  cases r1 with
  | cons r rr =>
    cases rr
    cases r
    obtain ⟨its, rv, p', hz⟩ := I1.tuple hq
    have hT : s1.heap.IsTuple a its.toArray := p'
    obtain ⟨ot, hot, _⟩ := id p'
    have hlt := Heap.lt_size hot
    refine enum_starts (begins_tuple a its.toArray) hT fun h' he hit hk => wpAny_pyIter_enum he ?_
    have I2 : Inv X pins σ H1 { s1 with heap := h' } := I1.kept (t' := s1.toks) hk
    refine ⟨s1.heap.objs.size + 1, [s1.heap.objs.size + 1, s1.heap.objs.size], _, _, H1, rfl, I2, turn_enumT a (s1.heap.objs.size + 1) s1.heap.objs.size,
      ⟨⟨.none, he⟩, ⟨_, hit, rfl, rfl⟩, Nat.succ_ne_self _, Nat.ne_of_lt hlt, Nat.ne_of_lt (Nat.lt_succ_of_lt hlt)⟩, fun b hb => ?_, q⟩
    have le : s1.heap.objs.size ≤ b := by
      rcases (show b = s1.heap.objs.size + 1 ∨ b = s1.heap.objs.size by simpa using hb) with z | z
      · rw [z]; exact Nat.le_add_right _ _
      · rw [z]; exact Nat.le_refl _
    exact I1.fpOk le (I1.hok.fresh le)
end My

set_option Elab.async false
set_option linter.all false
set_option maxRecDepth 100000
set_option maxHeartbeats 4000000
namespace My
open PySem PySem.Spec PyProof.Rows L2
/-! ### an own exception with one field -/
/-- what __init__ keeps: self.fld = value -/
def sp_init (K : PySem.W.Frag) (fld : Str) : Sp := fun vs H Q _ => ∃ (a C : Addr) (v : V), vs = [.ref a, v] ∧ OexC K C ∧ PySem.W.findIn K (.ref C) fld = some none ∧ H a = some (exo a C none) ∧
  ∀ dx, H dx = none → dx ≠ a → Q .non (upd (upd H dx (exd dx [(fld, v)])) a (exo a C (some dx)))
/-- what is known of the class of the name x, at C, its field fld -/
structure Ec (P : Program) (w : World) (K : PySem.W.Frag) (mg : Str → Option Value) (base : Heap) (x fld : Str) (C : Addr) : Prop where
  oc : OexC K C
  no : PySem.W.findIn K (.ref C) fld = some none
  g : mg x = some (.ref C)
  xf : XfC K C
  ini : ∃ (fI : Addr) (fd : FuncData), PySem.W.findIn K (.ref C) "__init__" = some (some (.ref fI)) ∧ PySem.W.typeIn K (.ref fI) = some (.type "function") ∧ FnOk P w K mg base CX0 1 fI fd ["self", fld] (sp_init K fld) ∧ Binds K fd ["self", fld] []
theorem upd_end {H : Hp} {a d : Addr} {o1 o2 o3 u : HO} (ha : H a = none) (hd : d ≠ a) : upd (del (upd (upd (upd H a o1) d o2) a o3) a) d u = upd H d u := by
  funext b
  by_cases e : b = d
  · subst e
    rw [upd_same, upd_same]
  · rw [upd_ne e, upd_ne e]
    by_cases f : b = a
    · subst f
      rw [del_same, ha]
    · rw [del_ne f, upd_ne f, upd_ne e, upd_ne f]
section
variable {X : Cx} {k : Nat} {x fld : Str} {C : Addr} {a : Expr} {ta : TA} {p pos : Pos}
theorem pmk_ec (T : Ec X.prog X.w X.K X.mg X.base x fld C) (hr : Room k X.A) (ha : PA X [a] ta) (hk : 2 ≤ k := by decide) (hg : Gl X x := by rfl) (hdb : (x == ("__debug__" : Str)) = false := by decide)
    (he : starEach (a :: []) X.env = (false, eval a X.env) :: starEach [] X.env := by rfl) (hpl : (backTo pos (starEach [] X.env)).any (·.1) = false := by rfl) :
    PMk X (.Call (.Name x p) [a] [] pos) (tMkO C (sp_init X.K fld) [] ta) := by
  obtain ⟨fI, fd, i1, i2, F, b⟩ := T.ini
  exact pmk_oex (p := p) (pos := pos) T.oc i1 i2 F (hr.mono hk) b .nil pass0 hg T.g ha hdb he hpl
end
/-- what is left once the argument is there -/
theorem mk_fill {P : Program} {w : World} {K : PySem.W.Frag} {mg : Str → Option Value} {base : Heap} {x fld : Str} {C : Addr} (T : Ec P w K mg base x fld C) {H1 : Hp} {v : V} {Q : XK}
    (q : ∀ d, H1 d = none → Q (.ref C) (some d) (upd H1 d (.xd [(fld, v)]))) :
    [v].length ≤ 1000 ∧ ∀ a, H1 a = none → sp_init K fld (.ref a :: ([v] ++ [])) (upd H1 a (exo a C none))
      (fun u H2 => u = .non ∧ ∃ (d : Addr) (fs : List (Str × V)), H2 a = some (exo a C (some d)) ∧ H2 d = some (exd d fs) ∧ H1 d = none ∧ Q (.ref C) (some d) (upd (del H2 a) d (.xd fs))) (fun _ _ _ => False) := by
  refine ⟨by show 1 ≤ 1000; decide, fun e he => ⟨e, C, v, rfl, T.oc, T.no, upd_same, fun dx h1 h2 => ?_⟩⟩
  have h3 : H1 dx = none := by rw [upd_ne h2] at h1; exact h1
  refine ⟨rfl, dx, [(fld, v)], upd_same, by rw [upd_ne h2, upd_same], h3, ?_⟩
  rw [upd_end he h2]
  exact q dx h3
/-! ### tuple * k -/
theorem tuple_mul_one (l : Addr) (items : Array Value) (n : Nat) (dd : Option Addr) (sl : Array (Option Value)) (x : Int) (u : Tok) (hx : x = 1) :
    Meets (Builtin.«tuple.__mul__» ⟨[.ref l, .int x u], []⟩) (fun _ R s => s.heap.get? l = some { cls := .type "tuple", dict := dd, data := .seq items n, slots := sl } ∧ R (.ok (.ret (Value.ref l))) s) :=
  .of_wp fun prog w A R s h => by
    subst hx
    obtain ⟨hp, g, d, tk, os⟩ := s
    obtain ⟨hl, h⟩ := h
    have f1 := AutoSeq1.idx_int
    wp_walk using AutoSeq1.wpAny_loadPart' hl
    have c1 : (items.isEmpty || (1 : Int) == 1) = true := by simp
    repeat (first
      | (refine wpAny_ite_true c1 ?_; wp_walk using AutoSeq1.wpAny_loadPart' hl)
      | (refine wpAny_ite_false (by decide) ?_; wp_walk using AutoSeq1.wpAny_loadPart' hl))
    exact ⟨_, rfl, h⟩
theorem tuple_mul_none (l : Addr) (items : Array Value) (n : Nat) (dd : Option Addr) (sl : Array (Option Value)) (x : Int) (u : Tok) (hx : x = 0) (hi : items.isEmpty = false) :
    Meets (Builtin.«tuple.__mul__» ⟨[.ref l, .int x u], []⟩) (fun _ R s => s.heap.get? l = some { cls := .type "tuple", dict := dd, data := .seq items n, slots := sl } ∧
      R (.ok (.ret (Value.ref s.heap.objs.size))) { s with heap := s.heap.push { cls := Value.type "tuple", data := Data.seq #[] }, toks := s.toks }) :=
  .of_wp fun prog w A R s h => by
    subst hx
    obtain ⟨hp, g, d, tk, os⟩ := s
    obtain ⟨hl, h⟩ := h
    have f1 := AutoSeq1.idx_int
    wp_walk using AutoSeq1.wpAny_loadPart' hl
    have c1 : (items.isEmpty || (0 : Int) == 1) = false := by rw [hi]; rfl
    have c2 : (decide ((0 : Int) ≤ 0) || items.isEmpty) = true := by simp
    repeat (first
      | (refine wpAny_ite_false (decide_eq_false (by rw [c1]; exact Bool.false_ne_true)) ?_; wp_walk using AutoSeq1.wpAny_loadPart' hl)
      | (refine wpAny_ite_true c2 ?_; wp_walk using AutoSeq1.wpAny_loadPart' hl)
      | (refine wpAny_ite_false (by decide) ?_; wp_walk using AutoSeq1.wpAny_loadPart' hl))
    exact ⟨_, rfl, h⟩
def rRepA (K : PySem.W.Frag) : R2 := fun x y H Q => ∃ l k xs, x = .ref l ∧ y = .int k ∧ SqT K H l xs ∧ xs ≠ [] ∧ 0 ≤ k ∧ k ≤ 1000 ∧ xs.length ≤ 1000 ∧
  (k = 1 → Q (.ref l) H) ∧ (k ≠ 1 → ∀ p, H p = none → Q (.ref p) (upd H p (.tup (List.replicate k.toNat xs).flatten)))
theorem op_repA {X : Cx} : OpR X (binaryOp .Mult) (rRepA X.K) := by
  intro pins s σ H x y v u Q I rx ry h
  obtain ⟨l, k, xs, rfl, rfl, hT, hne, h1, h2, hz, q1, q2⟩ := h
  by_cases big : 2 ≤ k
  · exact op_repT pins s σ H _ _ v u Q I rx ry ⟨l, k, xs, rfl, rfl, hT, hne, big, h2, hz, q2 (by omega)⟩
  cases rx
  obtain ⟨t, rfl⟩ := ry
  obtain ⟨its, r, ⟨⟨cls, dd, data, sl⟩, ho, hc, n, hd⟩, hs⟩ := I.tuple hT
  simp only at hc hd
  subst hc hd
  have hle : its.length = xs.length := r.length.symm
  have hi : its.toArray.isEmpty = false := by
    cases its with
    | nil => exact absurd (List.eq_nil_of_length_eq_zero hle.symm) hne
    | cons a b => rfl
  by_cases one : k = 1
  · subst one
    refine wpAny_binaryOp_repeat_ref (T := "tuple") (U := "int") (by decide) ⟨_, ho, rfl⟩ (fun s' => typeIs_int s' _ t) noFill_tuple_mul F.fills_int_mul F.slot_int_rmul repeat_tuple F.slot_int_index.lookup
      (call_meets F.slot_int_rmul (typeIs_int s _ t) F.entry_int_rmul (F.args_int_rmul_2 _ _) (int_rmul_tuple _ t l its.toArray n dd sl)
        ⟨ho, rfl, ⟨_, ho, rfl⟩, call_meets F.slot_tuple_mul ⟨_, ho, rfl⟩ F.entry_tuple_mul (F.args_tuple_mul_2 _ _) (tuple_mul_one l its.toArray n dd sl _ t rfl) ⟨ho, ?_⟩⟩)
    exact ⟨.ref l, H, I, rfl, q1 rfl⟩
  · have zero : k = 0 := by omega
    subst zero
    refine wpAny_binaryOp_repeat_ref (T := "tuple") (U := "int") (by decide) ⟨_, ho, rfl⟩ (fun s' => typeIs_int s' _ t) noFill_tuple_mul F.fills_int_mul F.slot_int_rmul repeat_tuple F.slot_int_index.lookup
      (call_meets F.slot_int_rmul (typeIs_int s _ t) F.entry_int_rmul (F.args_int_rmul_2 _ _) (int_rmul_tuple _ t l its.toArray n dd sl)
        ⟨ho, rfl, ⟨_, ho, rfl⟩, call_meets F.slot_tuple_mul ⟨_, ho, rfl⟩ F.entry_tuple_mul (F.args_tuple_mul_2 _ _) (tuple_mul_none l its.toArray n dd sl _ t rfl hi) ⟨ho, ?_⟩⟩)
    refine ⟨.ref s.heap.objs.size, _, I.laid (t' := s.toks) (o := .tup []) (fun b ob q => Heap.get?_push_of_some _ q) (Nat.le_refl _) ?_, rfl, q2 one _ (I.hok.fresh (Nat.le_refl _))⟩
    exact ⟨by show 0 ≤ sizeLine; exact Nat.zero_le _, [], .nil, IsTup.new _ _⟩
end My

set_option Elab.async false
set_option linter.all false
set_option maxRecDepth 100000
set_option maxHeartbeats 4000000
namespace My
open PySem PySem.Spec PyProof.Rows L2
/-! ### several except clauses, with a name for the error or without one -/
abbrev Suite := Addr → Value → Option Addr → TS
/-- behind a clause with a name the name's slot is empty -/
def emptied (i : Nat) (D : Ends) : Ends where
  nx := fun σ H => D.nx (σ.set i none) H
  rt := D.rt
  bk := fun σ H => D.bk (σ.set i none) H
  ct := fun σ H => D.ct (σ.set i none) H
def within (o : Option Nat) (ts : Suite) (a : Addr) (cls : Value) (d : Option Addr) (D : Ends) (σ : L2.St) (H : Hp) : Prop := match o with
  | none => ts a cls d D σ H
  | some i => ts a cls d (emptied i D) (σ.set i (some (.ref a))) H
def wCl (K : PySem.W.Frag) (out : WX) (D : Ends) : List (Value × Option Nat × Suite) → WX
  | [] => out
  | (c, o, ts) :: r => fun cls d σ H => ∃ b, PySem.W.exmOne K cls c = some b ∧ (b = true → ∀ a, H a = none → within o ts a cls d D σ H) ∧ (b = false → wCl K out D r cls d σ H)
def nameOk (X : Cx) : Option Nat → Option Str → Prop
  | none, none => True
  | some i, some n => X.N[i]? = some n ∧ X.env.kindOf n = some .local
  | _, _ => False
inductive Cls7 (X : Cx) : List ExceptHandler → List (Value × Option Nat × Suite) → Prop
  | nil : Cls7 X [] []
  | cons {x : Str} {c : Value} {o : Option Nat} {n : Option Str} {ts : Suite} {b₀ : Stmt} {suite : List Stmt} {p1 p2 : Pos} {hds : List ExceptHandler} {l : List (Value × Option Nat × Suite)} (hc : Names X x c) (hn : nameOk X o n)
      (hsu : ∀ (a : Addr) (oe : Obj) (cls : Value) (d : Option Addr) (pn : List (Addr × Obj)), Zc cls d oe → (∃ vs, oe.data = .fields vs) → PSs (X.suite a ((a, oe) :: pn)) (b₀ :: suite) (ts a cls d)) (r : Cls7 X hds l) :
      Cls7 X (.ExceptHandler (some (.Name x p1)) n (b₀ :: suite) p2 :: hds) ((c, o, ts) :: l)
section
variable {X : Cx} {body : List Stmt} {h₀ : ExceptHandler} {hds : List ExceptHandler} {l : List (Value × Option Nat × Suite)} {pos : Pos} {tb : WX → TS} {out : WX}
theorem ps_try7 (hs : X.stack = X.env :: X.outer) (hf : X.env.frame = some X.env.locals) (hN : X.N.Nodup) (tk : Takes X out)
    (hb : ∀ (W : WX) (pn : List (Addr × Obj)) (xe : Value → Shared → Prop), Takes (X.tr pn xe) W → PassesOwn (model X.prog X.w) X.A X.env xe → PSs (X.tr pn xe) body (tb W))
    (hh : Cls7 X (h₀ :: hds) l) : PS X (.Try body (h₀ :: hds) [] [] pos) (fun D σ H => tb (wCl X.K out D l) D σ H) := by
  refine ⟨fun pins s σ H D I h => ?_⟩
  have ok := I.ok
  have fr : X.A.frames = some (X.env :: X.outer) := by rw [ok.frames, hs]
  let catcher : Value → Shared → Prop := fun e sA =>
    wpAny (model X.prog X.w) X.A (noteFrame e X.env) (fun _ sB =>
      wpAny (model X.prog X.w) X.A (setFlight e none) (fun _ sC =>
        wpAny (model X.prog X.w) X.A (handleBy e X.env (h₀ :: hds)) (SP X pins D) X.xe sC) X.xe sB) X.xe sA
  refine wpAny_Try_except ?_
  have run := (hb (wCl X.K out D l) (X.pn ++ pins) catcher (fun u s' xx => ?_) PassesOwn.looking).run [] s σ H D (I.toTry _) h
  · refine wpAny_mono run (fun fl s1 hsp => ?_) (fun e s1 he => he)
    match fl, hsp with
    | .next, ⟨σ', H', J', q⟩ => exact wpAny_execs_nil ⟨σ', H', J'.ofTry ok, q⟩
    | .brk, ⟨σ', H', J', q⟩ => exact ⟨σ', H', J'.ofTry ok, q⟩
    | .cont, ⟨σ', H', J', q⟩ => exact ⟨σ', H', J'.ofTry ok, q⟩
    | .ret _, ⟨v, σ', H', J', r, q⟩ => exact ⟨v, σ', H', J'.ofTry ok, r, q⟩
  · obtain ⟨a, B, sI, pins', σ', H', cls, d, rfl, J', nb, up, sky, na, os, ag, w⟩ := xx
    have J : Inv X pins σ' H' sI := J'.ofTry ok
    rw [hs] at sky
    show wpAny (model X.prog X.w) X.A (noteFrame (.ref a) X.env) _ _ _
    refine Sky.land Zc.steady fr hf sky fun hA fA uA => ?_
    have JA : Inv X pins σ' H' { s' with heap := hA } := J.landed nb fA.1 (up.trans uA) os ag
    obtain ⟨oA, vA, eA, zA, dA⟩ := fA.there
    have away : a ∉ frs (X.env :: X.outer) := fun hm => by
      obtain ⟨_, o', e', hnf⟩ := fA.2.2.1.mem hm
      rw [eA] at e'
      cases e'
      exact hnf _ dA
    have nL : a ≠ X.env.locals := fun z => away (List.mem_filterMap.mpr ⟨X.env, List.mem_cons_self, by rw [hf, z]⟩)
    have nF : a ∉ X.fs := fun hm => by
      obtain ⟨e, he, q⟩ := List.mem_filterMap.mp hm
      exact away (List.mem_filterMap.mpr ⟨e, List.mem_cons_of_mem _ he, q⟩)
    have SA := JA.suite eA dA na nL nF
    have look : PySem.W.Looks (model X.prog X.w) hA (typeOf (.ref a)) cls := fun A Q E s k q => wpAny_typeOf_ref (k _ _ eA) (by rw [zA.1]; exact q)
    have go : ∀ {hd2 : List ExceptHandler} {l2 : List (Value × Option Nat × Suite)}, Cls7 X hd2 l2 → wCl X.K out D l2 cls d σ' H' →
        wpAny (model X.prog X.w) X.A (handleBy (.ref a) X.env hd2) (SP X pins D) X.xe { s' with heap := hA } := by
      intro hd2 l2 hk
      induction hk with
      | nil =>
        intro w
        refine wpAny_handleBy_nil ?_
        obtain ⟨_, _, _, oe, vs, T, oT, ts', he, hz, hd, h1, hr⟩ := id fA
        unfold PySem.passOn
        refine wpAny_bind (wpAny_field he hd h1 ?_)
        have nn : ¬ ((Value.ref T == Value.none) = true) := by simp
        rw [if_neg nn]
        have last : wpAny (model X.prog X.w) X.A (setFlight (.ref a) X.env.frame)
            (fun _ s4 => wpAny (model X.prog X.w) X.A (throw (.ref a) : Sem Flow) (SP X pins D) X.xe s4) X.xe { s' with heap := hA } := by
          rw [hf]
          refine HandSPX.setFlight_upZ fA fun hB hhB uB => wpAny_throw (tk _ _ ?_)
          refine ⟨a, B, sI, pins, σ', H', cls, d, rfl, J, nb, (up.trans uA).trans uB, .inr (.inr ?_), na, os, ag, w⟩
          rw [hs]
          exact hhB
        first
          | exact wpAny_bind (wpAny_pure (wpAny_bind last))
          | exact wpAny_bind last
      | @cons x c o n ts b₀ suite p1 p2 hd3 l3 hc hn hsu r ih =>
        intro w
        obtain ⟨b, hb1, yes, no⟩ := w
        refine wpAny_handleBy_cons (codeAny_handlers_test ?_) (by intro z; cases z)
        have match_ := PySem.W.exm_one (M := model X.prog X.w) JA.kIn look hb1
        have named : ∀ {Q E : Value → Shared → Prop}, Q c { s' with heap := hA } → wpAny (model X.prog X.w) (X.A.mark (some (.ref a))) (eval (.Name x p1) X.env) Q E { s' with heap := hA } := by
          intro Q E q
          obtain ⟨hg, hdbg, hm | ⟨hm, hv, hnn⟩⟩ := hc
          · exact ld_glob (X := X.suite a ((a, oA) :: (X.pn ++ pins))) SA hg hm q hdbg
          · exact ld_blt (X := X.suite a ((a, oA) :: (X.pn ++ pins))) SA hg hm hv q hnn hdbg
        refine named (match_.here ?_)
        cases b with
        | false =>
          show wpAny _ X.A (handleBy (.ref a) X.env hd3) _ _ _
          exact ih (no rfl)
        | true =>
          have want := yes rfl a na
          match o, n, hn, want with
          | none, none, _, want =>
            refine codeAny_handlers_suite ?_
            refine HandSPX.lands_againZ fA fun hB fB uB => ?_
            have JB : Inv X pins σ' H' { s' with heap := hB } := J.landed nb fB.1 ((up.trans uA).trans uB) os ag
            obtain ⟨oB, vB, eB, zB, dB⟩ := fB.there
            have SB := JB.suite eB dB na nL nF
            refine wpAny_mono ((hsu a oB cls d (X.pn ++ pins) zB ⟨_, dB⟩).run [] _ _ H' _ SB want) (fun fl s6 hsp => ?_) (fun _ _ z => z.elim)
            match fl, hsp with
            | .next, ⟨σ6, H6, S6, q6⟩ => exact ⟨_, _, S6.unsuite ok, q6⟩
            | .brk, ⟨σ6, H6, S6, q6⟩ => exact ⟨_, _, S6.unsuite ok, q6⟩
            | .cont, ⟨σ6, H6, S6, q6⟩ => exact ⟨_, _, S6.unsuite ok, q6⟩
            | .ret _, ⟨v6, σ6, H6, S6, r6, q6⟩ => exact ⟨_, _, _, S6.unsuite ok, r6, q6⟩
          | some i, some n, hn, want =>
            obtain ⟨hi, hln⟩ := hn
            refine codeAny_handlers_suite_as ?_
            refine HandSPX.lands_againZ fA fun hB fB uB => ?_
            have JB : Inv X pins σ' H' { s' with heap := hB } := J.landed nb fB.1 ((up.trans uA).trans uB) os ag
            obtain ⟨oB, vB, eB, zB, dB⟩ := fB.there
            have SB := JB.suite eB dB na nL nF
            refine store_ok (X := X.suite a ((a, oB) :: (X.pn ++ pins))) (v := .ref a) SB hN hi (.inl hln) rfl (fun s5 S5 => ?_) (.inr hln)
            refine wpAny_mono ((hsu a oB cls d (X.pn ++ pins) zB ⟨_, dB⟩).run [] s5 _ H' _ S5 want) (fun fl s6 hsp => ?_) (fun _ _ z => z.elim)
            have done : ∀ {σ6 : L2.St} {H6 : Hp} {Q : Shared → Prop}, Inv (X.suite a ((a, oB) :: (X.pn ++ pins))) [] σ6 H6 s6 → (∀ s7, Inv X pins (σ6.set i none) H6 s7 → Q s7) →
                wpAny (model X.prog X.w) X.A (do bindName X.env n .none; unbindBehindTheSuite X.env n p2) (fun _ s7 => Q s7) X.xe s6 :=
              fun {σ6 H6 Q} S6 hq => gone_ok (S6.unsuite ok) hN hi hln hq
            match fl, hsp with
            | .next, ⟨σ6, H6, S6, q6⟩ => exact done S6 fun s7 J7 => ⟨_, _, J7, q6⟩
            | .brk, ⟨σ6, H6, S6, q6⟩ => exact done S6 fun s7 J7 => ⟨_, _, J7, q6⟩
            | .cont, ⟨σ6, H6, S6, q6⟩ => exact done S6 fun s7 J7 => ⟨_, _, J7, q6⟩
            | .ret _, ⟨v6, σ6, H6, S6, r6, q6⟩ => exact done S6 fun s7 J7 => ⟨_, _, _, J7, r6, q6⟩
    exact go hh w
end
end My

set_option Elab.async false
set_option linter.all false
set_option maxRecDepth 100000
set_option maxHeartbeats 4000000
namespace My
open PySem PySem.Spec PyProof.Rows L2 LamX
/-! ### a lambda handed to a def that catches what it raises: the wish is told at the catcher's own slots -/
section
variable {X : Cx} {pins : List (Addr × Obj)} {σ : L2.St} {H : Hp} {s : Shared}
/-- the context of the def that got the lambda -/
abbrev gotCx (X : Cx) (Ng : List Str) (qg : Str) (sg : Scope) (g : Addr) (cdg : Value) (s : Shared) (H : Hp) : Cx :=
  cxOf C8.CX0 X.prog X.w X.K X.mg X.base Ng qg sg g cdg X.A X.stack s H C8.E0
theorem pe_actS {Ng : List Str} {qg : Str} {sg : Scope} {g f c' : Addr} {cdg pm ctv : Value} {params : Arguments} {body : Expr} {scope : Scope} {k i : Nat} {a : Str} {pn : List (Addr × Obj)} {xe : Value → Shared → Prop} {W : WX} {tb : XK → TE} {p1 p2 : Pos}
    (I : Inv X pins σ H s) (L : LamS X.env.scope scope)
    (hf : s.heap.get? f = some (PySem.W.kla_obj "<lambda>" (X.env.qual ++ "<lambda>") params body scope (cloFrom X.env.cells scope.names []) pm c' ctv))
    (hfn : H f = none) (hfr : f ∉ frs X.stack)
    (hbind : bindArgs (PySem.W.kla_fn "<lambda>" (X.env.qual ++ "<lambda>") params body scope (cloFrom X.env.cells scope.names []) pm (.ref c') ctv) ⟨[], []⟩ = pure [])
    (tk : Takes ((gotCx X Ng qg sg g cdg s H).tr pn xe) W) (hr : Room (k + 1) (X.A.deeper (envOfC qg sg s.heap.objs.size g cdg)))
    (hbody : ∀ (E : XK) (A : Around) (outer : List Env) (s : Shared) (H : Hp), Room k (A.deeper (lamEnv X scope s.heap.objs.size f c')) → PE (lamCx X A outer s H E scope f c') body (tb E))
    (hN : Ng[i]? = some a) (hv : Vis sg a) (hd : (a == ("__debug__" : Str)) = false := by decide) (hcd : (a == ("__classdict__" : Str)) = false := by decide) :
    PE ((gotCx X Ng qg sg g cdg s H).tr pn xe) (.Call (.Name a p1) [] [] p2)
      (fun σZ HZ Q => σZ[i]? = some (some (.ref f)) ∧ HZ c' = some (CodeO c' (X.env.qual ++ "<lambda>")) ∧ tb (WE W σZ) σ HZ Q) := by
  refine ⟨fun pinsZ sZ σZ HZ Q IZ h => ?_⟩
  obtain ⟨hs, hc, ht⟩ := h
  have name := (pe_var (X := (gotCx X Ng qg sg g cdg s H).tr pn xe) (pos := p1) (i := i) hN hv hd hcd).run pinsZ sZ σZ HZ (fun v H1 => v = .ref f ∧ H1 = HZ) IZ ⟨.ref f, hs, rfl, rfl⟩
  refine wpAny_Call_Name_kw (thn name fun u s1 z => ?_)
  obtain ⟨v, H1, I1, r1, ev, eH⟩ := z
  subst ev
  rw [eH] at I1
  obtain rfl : u = Value.ref f := r1
  have no : f ∉ ([] : List Addr) := by simp
  have of1 := I1.base.keep f _ hf hfn hfr no
  refine PySem.W.callWith_F0 ⟨_, _, _, _, of1⟩ ?_
  have un : Un (frs X.stack) [] H HZ s.heap s1.heap := I1.base
  obtain ⟨⟨oc, vs, t, hoc, hdc, hvc⟩, _, _⟩ := I1.hok c' _ hc
  let E : XK := WE W σZ
  have run : codeAny (model X.prog X.w) (X.A.deeper (envOfC qg sg s.heap.objs.size g cdg)) (.call (.ref f) ⟨[], []⟩)
      (CR (L2.CX X.prog X.w) (envOfC qg sg s.heap.objs.size g cdg :: X.stack) X.prog X.w HZ s1 Q E) s1 := by
    refine PySem.W.kla_callFunE hr.depth of1 rfl L.co L.gen rfl ⟨c', oc, vs, t, rfl, hoc, hdc, hvc⟩ ?_
    rw [hbind]
    have own1 : ∀ y ∈ scope.names, y.2 ≠ .cell := fun y hy => (L.own y hy).2
    refine wpAny_pure (wpAny_newFunctionEnv own1 (fun y hy => absurd hy (by simp)) (fun h₁ hns hsb => ⟨I1.nolimit.fresh _ hsb, ?_⟩) L.kind)
    show codeAny _ _ (.expr body (lamEnv X scope s1.heap.objs.size f c')) _ _
    have kp : ∀ b o, s1.heap.get? b = some o → h₁.get? b = some o := fun b o e => hsb.extBut b o (Nat.ne_of_lt (Heap.lt_size e)) (Heap.get?_push_of_some _ e)
    have J := lam_start2 (A := X.A.deeper (envOfC qg sg s.heap.objs.size g cdg)) (outer := envOfC qg sg s.heap.objs.size g cdg :: X.stack) (E := E) (f := f) (c' := c')
      (tk := s1.toks + ([] : List (Str × Value)).length) I L I1.env0 hr.hd un hns kp
    refine PySem.W.kla_codeExpr (wpAny_mono ((hbody E _ _ s1 HZ (hr.deeper _)).run [] _ _ HZ Q J ht) (fun v s' hq => ?_) fun e s' hq => hq)
    obtain ⟨w', H', J', rv, q⟩ := hq
    exact ⟨w', H', J'.os, J'.bare, J'.base, J'.hok, rv, q⟩
  have leaves := passAt tk σZ
  refine wpAny_call (codeAny_mono run fun r s' hq => ?_)
  match r, hq with
  | .error e, hq => exact leaves pinsZ HZ s1 e s' I1 hq
  | .ok (.ret u), hq => exact I1.after hq
end
/-- the def that calls what it got, and catches -/
def GivesS (X : Cx) (Ng : List Str) (x : Str) (sg : Scope) (g : Addr) (cdg : Value) (bg : List Stmt) (a : Str) (q : Str) (TT : (XK → Hp → VK → Prop) → Hp → VK → Prop) : Prop :=
  ∀ (f c' : Addr) (s : Shared) (H : Hp) (Q : VK) (tl : XK → Hp → VK → Prop),
    (∀ (W : WX) (pn : List (Addr × Obj)) (xe : Value → Shared → Prop) (p1 p2 : Pos), Takes ((gotCx X Ng x sg g cdg s H).tr pn xe) W →
      PE ((gotCx X Ng x sg g cdg s H).tr pn xe) (.Call (.Name a p1) [] [] p2) (fun σZ HZ Q => σZ[0]? = some (some (.ref f)) ∧ HZ c' = some (CodeO c' q) ∧ tl (WE W σZ) HZ Q)) →
    H c' = some (CodeO c' q) → TT tl H Q →
    ∃ t, PSs (gotCx X Ng x sg g cdg s H).nox bg t ∧ t { nx := fun _ H' => Q .non H', rt := Q } (L2.start Ng [.ref f]) H
section
variable {X : Cx}
theorem pe_lamS {T : List (Addr × Str)} {TT : (XK → Hp → VK → Prop) → Hp → VK → Prop} {x a : Str} {g c P : Addr} {k : Nat} {fd : FuncData} {st : Stmt} {Ng : List Str}
    {params : Arguments} {body : Expr} {scope : Scope} {t : XK → TE} {p lpos pos : Pos} (F : Fun X.K x x st g fd) (hm : X.mg x = some (.ref g)) (hb : L2.Binds X.K fd [a] [])
    (Sg : FnScope Ng [a] (defScope st)) (hNg : Ng[0]? = some a) (hva : Vis (defScope st) a) (hG : ∀ cdv, GivesS X Ng x (defScope st) g cdv (defBody st) a (X.env.qual ++ "<lambda>") TT)
    (TB : TabB X.base X.mg c P) (hcode : X.env.code = .ref c) (hmT : (P, X.env.qual ++ "<lambda>") ∈ T) (hu : ∀ p ∈ T, p.1 = P → p.2 = X.env.qual ++ "<lambda>")
    (hr : Room (k + 2) X.A) (L : LamS X.env.scope scope) (hdef : defaultsOf params X.env = ([], []))
    (hbind : ∀ (q : Str) (cl : List (Str × Addr)) (pm cv ctv : Value), bindArgs (PySem.W.kla_fn "<lambda>" q params body scope cl pm cv ctv) ⟨[], []⟩ = pure [])
    (hbody : ∀ (A : Around) (outer : List Env) (s : Shared) (H : Hp) (E : XK) (f c' : Addr), Room k (A.deeper (lamEnv X scope s.heap.objs.size f c')) → PE (lamCx X A outer s H E scope f c') body (t E))
    (hg : Gl X x := by rfl) (hdb : (x == ("__debug__" : Str)) = false := by decide) (hd : (a == ("__debug__" : Str)) = false := by decide) (hcd : (a == ("__classdict__" : Str)) = false := by decide) :
    PE X (.Call (.Name x p) [.Lambda params body scope lpos] [] pos) (tLam T TT t) := by
  obtain ⟨oc, od, kV, doc, pm, an, cdv, ct, osl, rfl, lk, hcg⟩ := F.ex
  refine ⟨fun pins s σ H Q I h => ?_⟩
  obtain ⟨hT, h⟩ := h
  refine wpAny_Call_Name_kw (ld_glob I hg hm ?_ hdb)
  refine PySem.W.callWith_K (h₀ := X.base) I.ok.mod.kin F.kp ?_ (by rfl) (by rfl)
  have made := lam_make2 (params := params) (body := body) (scope := scope) (pos := lpos) (E := X.xe) (Q := fun v s' => ∃ f c' pm ctv H1, v = .ref f ∧ Inv X pins σ H1 s' ∧ ExtN H H1 ∧ Tabs T H1 ∧
      s'.heap.get? f = some (PySem.W.kla_obj "<lambda>" (X.env.qual ++ "<lambda>") params body scope (cloFrom X.env.cells scope.names []) pm c' ctv) ∧ H1 f = none ∧ f ∉ frs X.stack ∧ H1 c' = some (CodeO c' (X.env.qual ++ "<lambda>")))
    I TB hcode hmT hu hT hdef (L.has I.ok) fun f c' pm ctv H1 s' a1 a2 a3 a4 a5 a6 a7 => ⟨f, c', pm, ctv, H1, rfl, a1, a2, a3, a4, a5, a6, a7⟩
  show wpAny _ _ (spliced ((false, eval (.Lambda params body scope lpos) X.env) :: backTo pos (starEach [] X.env))) _ _ s
  refine Calls.spliced_cons (thn made fun v s' z => ?_)
  obtain ⟨f, c', pm', ctv, H1, rfl, I1, eN, T1, hf, hfn, hfr, hco⟩ := z
  refine Calls.spliced_nil ⟨I1.kIn, ?_⟩
  have run : codeAny (model X.prog X.w) X.A (.call (.ref g) ⟨[.ref f], []⟩) (CR C8.CX0 X.stack X.prog X.w H1 s' Q C8.E0) s' := by
    refine run_ofS (N := Ng) (ps := [a]) (us := [.ref f]) (vs := [.ref f]) lk hcg Sg hr I1.env0 (hb s' [.ref f] I1.kIn rfl) (.cons rfl .nil) rfl fun hr' => ?_
    have inner := hG cdv f c' s' H1 Q (fun E H' Q' => t E σ H' Q') (fun W pn xe p1 p2 tk => pe_actS (i := 0) I1 L hf hfn hfr (hbind _ _ _ _ _) tk hr' (fun E A outer s H hr2 => hbody A outer s H E f c' hr2) hNg hva hd hcd) hco (h H1 eN T1)
    obtain ⟨t', ht', hq'⟩ := inner
    exact ⟨t', ht'.nox, hq'⟩
  refine wpAny_call (codeAny_mono run fun r s2 hq => ?_)
  match r, hq with
  | .error e, hq => exact (show False from hq).elim
  | .ok (.ret u), hq => exact I1.after hq
end
end My

set_option Elab.async false
set_option linter.all false
set_option maxRecDepth 100000
set_option maxHeartbeats 4000000
namespace PySem
namespace HandSPX
open Builtin
/-! ### a class of errors called with keywords: they go on to its own __init__ -/
section
variable {P : Program} {w : World} {A : Around} {U : Value → Shared → Prop} {R : Result → Shared → Prop} {hp : Heap} {gs : Array GenState} {dr : Drawn} {tk : Nat} {os : OsState} {us : List Value} {ks : List (Str × Value)} {ini : Addr}
  {nm qn : Str} {C nsp : Addr} {bases tail tailB : List Value} {dct : Bool} {slN : List Str} {subs : List Value} {abs : Bool} {cl : Option Bool} {cd : Option Addr} {a0 a1 a2 a3 a5 : Option Value} {T nw it : String}
  (F : ExcBaseFacts T nw it tailB) (same : ∀ y : String, tail.contains (.type y) = tailB.contains (.type y)) (at_ : hp.get? C = some (excClassObj nm qn C nsp bases tail dct slN subs abs cl cd a0 a1 a2 a3 a5 nw))
include F same at_
/-- what __new__ is asked first -/
theorem kw_check {Q : Unit → Shared → Prop} (q : Q () ⟨hp, gs, dr, tk, os⟩) : wpAny (model P w) A (checkBuiltinCall nw { pos := .ref C :: us, kw := ks }) Q U ⟨hp, gs, dr, tk, os⟩ := by
  have top : (Value.ref C :: tail).contains (.type T) = true := by rw [List.contains_cons, same, F.hasB, Bool.or_true]
  have star := F.noStar
  unfold checkBuiltinCall
  simp only [F.newKind, F.newSplit, F.newRow]
  repeat (first | refine wpAny_loadPart_at at_ ?_ | (refine wpAny_isSubtype_exc at_ ?_; rw [top]) | refine wpAny_staticBase_exc at_ ?_ | refine wpAny_madeBy_exc at_ ?_ | simp only [bne_self_eq_false, Bool.false_eq_true, if_false] | wp_step)
  exact q
/-- __new__ looks at no keyword -/
theorem kw_new (q : R (.ok (.ret (.ref (hp.objs.size + 1)))) ⟨(hp.push (W.kdv_tup us)).push (excO C hp.objs.size), gs, dr, tk, os⟩) (few : us.length ≤ sizeLine) :
    codeAny (model P w) A (.builtin nw { pos := .ref C :: us, kw := ks }) R ⟨hp, gs, dr, tk, os⟩ := by
  have ends := F.ends
  have top : (Value.ref C :: tail).contains (.type T) = true := by rw [List.contains_cons, same, F.hasB, Bool.or_true]
  have noA : (Value.ref C :: tail).contains (.type "AttributeError") = false := by rw [List.contains_cons, same, F.noAttr]; exact rfl
  have noN : (Value.ref C :: tail).contains (.type "NameError") = false := by rw [List.contains_cons, same, F.noName]; exact rfl
  refine codeAny_builtinAt F.entry ?_; unfold Builtin.«BaseException.__new__»
  refine wpAt_bind (show wpAt _ _ _ (stack >>= _) _ _ _ from wpAt_bind (wpAt_stack fun _ _ => wpAt_of_wpAny ?_))
  wp_walk
  refine wpAt_of_wpAny ?_; rw [F.owner]
  repeat (first | with_reducible refine wpAny_madeHere_exc F.canon at_ ?_ | with_reducible refine wpAny_loadPart_at at_ ?_ | (with_reducible refine wpAny_isSubtype_exc at_ ?_; first | rw [top] | rw [noA] | rw [noN]) | wp_step)
  show R _ _; rw [Heap.size_push]; exact q
variable (few : us.length ≤ sizeLine) (lk : W.Looks (model P w) hp (typeLookup (.ref C) "__init__") (some (.ref ini))) (bd : ∀ y, W.Looks (model P w) hp (bindSpecial (.ref ini) y) (.ref ini, [y]))
include few lk bd
/-- type's call: __new__, then the own __init__ with the keywords -/
theorem kw_type {Q : Fin → Shared → Prop} (q : codeAny (model P w) A (.call (.ref ini) ⟨.ref (hp.objs.size + 1) :: us, ks⟩)
      (fun r z => match r with | .error e => U e z | .ok (.ret v) => v = .none ∧ Q (.done (.ret (.ref (hp.objs.size + 1)))) z | .ok _ => False) ⟨(hp.push (W.kdv_tup us)).push (excO C hp.objs.size), gs, dr, tk, os⟩) :
    wpAny (model P w) A (Builtin.«type.__call__» { pos := .ref C :: us, kw := ks }) Q U ⟨hp, gs, dr, tk, os⟩ := by
  repeat (first | with_reducible refine wpAny_loadPart_at at_ ?_ | with_reducible refine wpAny_madeBy_exc at_ ?_ | wp_step)
  refine codeAny_call_builtin_code (Code.quiet_builtin _ F.quiet) (kw_check F same at_ (kw_new F same at_ (show wpAny _ _ _ _ _ _ from ?_) few))
  have up : ∀ b o, hp.get? b = some o → ((hp.push (W.kdv_tup us)).push (excO C hp.objs.size)).get? b = some o := fun _ _ e => Heap.get?_push_of_some _ (Heap.get?_push_of_some _ e)
  have atN := up _ _ at_
  have new : ((hp.push (W.kdv_tup us)).push (excO C hp.objs.size)).get? (hp.objs.size + 1) = some (excO C hp.objs.size) := by heap_get
  have own : (Value.ref C :: tail).contains (.ref C) = true := by rw [List.contains_cons]; simp
  have lk1 := lk.keeps up
  have bd1 := (bd (.ref (hp.objs.size + 1))).keeps up
  unfold isInstance
  repeat (first | with_reducible refine wpAny_loadPart_at new ?_ | (with_reducible refine wpAny_isSubtype_exc atN ?_; rw [own]) | wp_step)
  refine (show wpAny _ _ (typeLookup (.ref C) _) _ _ _ from lk1.at (wpAny_holding (wpAny_bind (bd1.at (wpAny_bind (wpAny_call (codeAny_mono q fun r z y => ?_)))))))
  match r, y with
  | .error e, y => exact y
  | .ok (.ret v), ⟨e, y⟩ =>
    subst e
    first | exact wpAny_pure (wpAny_pure y) | (wp_walk; exact y)
/-- C(.., k = v, ..) -/
theorem kw_call (q : codeAny (model P w) (A.under (.builtin "type.__call__" ⟨.ref C :: us, ks⟩)) (.call (.ref ini) ⟨.ref (hp.objs.size + 1) :: us, ks⟩) (W.InitBack (hp.objs.size + 1) R) ⟨(hp.push (W.kdv_tup us)).push (excO C hp.objs.size), gs, dr, tk, os⟩) :
    codeAny (model P w) A (.call (.ref C) ⟨us, ks⟩) R ⟨hp, gs, dr, tk, os⟩ := by
  have l1 := tc_lookup
  have l2 := tc_bind (.ref C)
  have ty : (⟨hp, gs, dr, tk, os⟩ : Shared).TypeIs (.ref C) "type" := ⟨_, at_, rfl⟩
  refine codeAny_of_tree (show wpAny _ _ (callAny (.ref C) _) _ _ _ from ?_)
  repeat (any_goals (first | assumption | with_reducible refine wpAny_loadPart_at at_ ?_ | wp_step))
  refine ⟨rfl, codeAny_call_builtin_at (Code.quiet_builtin _ (by decide +kernel)) entry_typeCall (wpAny_check_type_call_sub at_ (kw_type F same at_ few lk bd (codeAny_mono q fun r z y => ?_)))⟩
  match r, y with
  | .error e, y => exact y
  | .ok (.ret v), y => exact y
end
end HandSPX
end PySem

namespace PySem.W
open PySem PySem.Spec PySem.Calls PyProof.Rows
section
variable {prog : Program} {w : World} {A : Around} {E : Value → Shared → Prop} {s : Shared} {K : Frag} {x D : Addr} {ox : Obj} {od : Option Obj}
theorem my_data {C : Addr} {name : Str} {a g : Value} (hc : (clsIn K C).isSome = true) (ha : findIn K (.ref C) name = some (some a)) (hg : specialIn K a "__get__" = some (some g)) (ht : takesIn K a = some true) : findObj K C od name = some (.bind g a) := by
  obtain ⟨cd, h⟩ := Option.isSome_iff_exists.mp hc
  unfold findObj
  simp [h, ha, hg, ht]
theorem my_class {Q : Option Value → Shared → Prop} (C : L2.ExcC K D) (X : K.In s.heap) (I : InstAt s.heap x ox D od) (h : Q (some (.ref D)) { s with toks := s.toks + 1 }) : wpAny (model prog w) A (getAttr? (.ref x) "__class__") Q E s := by
  have hf : findObj K D od "__class__" = some (.bind (.builtin "getset_descriptor.__get__") (.builtin "object.__class__")) := my_data (by obtain ⟨cd, hc, _⟩ := any_some C.hd; rw [hc]; rfl) C.ha C.hn C.ht
  obtain ⟨hp, g, d, t, os⟩ := s
  have a0 := I.type (M := model prog w)
  have a1 := looks_findIn (M := model prog w) X C.hg
  have a2 := looks_findIn (M := model prog w) X C.hk
  have a3 := looks_find (M := model prog w) X I hf
  have sub : Looks (model prog w) hp (isInstance (.ref x) (.type "BaseException")) true := a0.andThen (looks_subIn X C.hs)
  have y0 : (false && onTheHeap (Value.builtin "BaseException.__getattribute__")) = false := rfl
  have y2 : (Value.builtin "BaseException.__getattribute__" == Value.builtin "object.__getattribute__") = false := by decide +kernel
  have y1 : (onTheHeap (Value.ref D) && Value.builtin "BaseException.__getattribute__" == Value.builtin "object.__getattribute__") = false := by rw [y2]; rfl
  unfold getAttr? getAttrBy? getAttrBy
  refine wpAny_bind (wpAny_mkText (wpAny_bind (wpAny_attempt (wpAny_holding (wpAny_bind (a0.at (wpAny_bind (a1.at ?_))))))))
  show wpAny _ _ (if (onTheHeap (Value.ref D) && Value.builtin "BaseException.__getattribute__" == Value.builtin "object.__getattribute__") = true then _ else _) _ _ _
  rw [y1, if_neg Bool.false_ne_true]
  unfold getAttrByItsOwn hookBefore
  refine wpAny_bind ?_
  rw [if_pos (show onTheHeap (Value.ref D) = true from rfl)]
  refine a2.at (wpAny_bind (wpAny_attempt (wpAny_holding ?_)))
  unfold callGetattribute
  rw [y0, if_neg Bool.false_ne_true]
  unfold boundAndCalled
  rw [PySem.F.excAttr_ValueError.ga.bind (.ref x)]
  refine wpAny_bind (wpAny_pure ?_)
  show wpAny _ _ (call (.builtin "BaseException.__getattribute__") [.ref x, .str "__class__" t]) _ _ _
  refine wpAny_call (codeAny_call_builtin PySem.F.excAttr_ValueError.ga.plain PySem.F.entry_bexc_ga ?_)
  refine @check_slot (model prog w) _ _ ⟨hp, g, d, t + 1, os⟩ "BaseException.__getattribute__" "BaseException" "__getattribute__" (.ref x) [.str "__class__" t] [] _ (by decide +kernel) (by decide +kernel) sub (PySem.F.args_bexc_ga (.ref x) (.str "__class__" t)) ?_
  unfold Builtin.«object.__getattribute__»
  refine wpAny_bind (wpAny_of_eq (a := ((Value.ref x : Value), [Value.str "__class__" t])) (by first | rfl | (simp only [slotArgs]; rfl)) ?_)
  refine wpAny_bind (wpAny_pure (wpAny_bind (a0.at (wpAny_bind (a3.at ?_)))))
  show wpAny _ _ (holding [Value.builtin "object.__class__"] (call (.builtin "getset_descriptor.__get__") [.builtin "object.__class__", .ref x, .ref D]) >>= ret) _ _ _
  refine wpAny_bind (wpAny_holding (wpAny_call (class_get (s := ⟨hp, g, d, t + 1, os⟩) (ox := ox) (od := od) X I C.hm ?_)))
  refine wpAny_pure ?_
  show wpAny _ _ (handedOut (.ref D)) _ _ _
  rw [handedOut_of (v := .ref D) rfl]
  first
    | exact wpAny_pure (wpAny_pure h)
    | exact wpAny_pure h
    | exact wpAny_pure (wpAny_bind (wpAny_pure (wpAny_pure h)))
theorem my_kitx (C : L2.ExcC K D) : KitX K (.ref x) (.ref D) (fun h => InstAt h x ox D od) where
  ty := fun _ _ _ I => I.type
  it := fun _ _ X _ => by
    obtain ⟨cd, hc, _⟩ := any_some C.hd
    unfold clsIn at hc
    split at hc
    case h_2 => cases hc
    case h_1 =>
      rename_i ho
      intro A' Q' E' s' k q
      unfold isType loadHead
      exact wpAny_bind (wpAny_loadPart (k _ _ (X _ _ ho)) (wpAny_pure q))
  ne := (handS_kitx_exc (x := x) (ox := ox) C.hg C.hk C.hs C.hd C.ha C.hn C.ht C.hm).ne
  ca := fun X I k => my_class C X I k
end
end PySem.W

namespace My
open PySem PySem.Spec PyProof.Rows L2
/-! ### an own exception as a value -/
theorem inst_exo {P : Program} {w : World} {H : Hp} {h : Heap} {a C dx : Addr} {fs : List (Str × V)} (ok : HOk P w H h) (ha : H a = some (exo a C (some dx))) (hd : H dx = some (exd dx fs)) :
    ∃ (oe : Obj) (od : Obj) (mA : Str → Option Value), PySem.W.InstAt h a oe C (some od) ∧ h.Ns1 dx mA ∧ h.get? dx = some od ∧ (∀ f, RelO (fs.lookup f) (mA f)) := by
  obtain ⟨⟨t1, e⟩, _⟩ := ok a _ ha
  obtain ⟨⟨mA, n1, r⟩, _⟩ := ok dx _ hd
  obtain ⟨od, ho, hl⟩ := lookIn_ns n1
  exact ⟨_, od, mA, ⟨e, rfl, by unfold PySem.W.notCls; trivial, ho⟩, n1, ho, r⟩
section
variable {X : Cx}
def rIsV (K : PySem.W.Frag) : List V → Hp → VK → Prop := fun xs H Q => ∃ (a D : Addr) (c : V) (cv : Value) (b : Bool), xs = [.ref a, c] ∧ (∀ u, RelV c u → u = cv) ∧ PySem.W.kitOne K (.ref D) cv = some b ∧ ExcC K D ∧
  ((∃ dx fs, H a = some (exo a D (some dx)) ∧ H dx = some (exd dx fs)) ∨ H a = some (ExO (.ref D) a)) ∧ Q (.bl b) H
theorem call_isV : CallR X (.builtin "isinstance") (rIsV X.K) := by
  intro pins s σ H xs us Q I r h
  obtain ⟨a, D, c, cv, b, rfl, hcv, e, C, hx, q⟩ := h
  cases r with
  | cons rx rr =>
    cases rr with
    | cons rt rr =>
      cases rr
      cases rx
      have ec := hcv _ rt
      subst ec
      rcases hx with ⟨dx, fs, ha, hd⟩ | ha
      · obtain ⟨oe, od, mA, J, _⟩ := inst_exo I.hok ha hd
        exact PySem.W.kia_one (PySem.W.my_kitx C) I.kIn J e (fun z => nomatch z) fun tk => ⟨.bl b, H, I.kept (t' := tk) fun _ _ z => z, rfl, q⟩
      · obtain ⟨⟨oe, vs, ho, hz, hd, _⟩, _⟩ := I.hok a _ ha
        have J : PySem.W.InstAt s.heap a oe D none := by
          obtain ⟨oc, od, oda, osl⟩ := oe
          obtain ⟨h1, h2⟩ := hz
          dsimp only at h1 h2 hd
          subst h1 h2 hd
          exact ⟨ho, rfl, rfl, trivial⟩
        exact PySem.W.kia_one (PySem.W.my_kitx C) I.kIn J e (fun z => nomatch z) fun tk => ⟨.bl b, H, I.kept (t' := tk) fun _ _ z => z, rfl, q⟩
/-- e.f -/
def tAtV (K : PySem.W.Frag) (f : Str) (te : TE) : TE := fun σ H Q => te σ H fun x H1 => ∃ (a C dx : Addr) (fs : List (Str × V)) (v : V), x = .ref a ∧ XfC K C ∧ PySem.W.findIn K (.ref C) f = some none ∧ H1 a = some (exo a C (some dx)) ∧ H1 dx = some (exd dx fs) ∧ fs.lookup f = some v ∧ Q v H1
theorem pe_atV {e : Expr} {te : TE} {pos : Pos} {n : Str} (he : PE X e te) (hb : attributeBase e n X.env (eval e X.env) = eval e X.env := by rfl) : PE X (.Attribute e n pos) (tAtV X.K n te) := by
  refine ⟨fun pins s σ H Q I h => attr_of hb (thn (he.run pins s σ H _ I h) fun u s1 z => ?_)⟩
  obtain ⟨x, H1, I1, rx, a, C, dx, fs, v, rfl, T, hno, ha, hd, l, q⟩ := z
  obtain rfl : u = Value.ref a := rx
  obtain ⟨oe, od, mA, J, n1, ho, r⟩ := inst_exo I1.hok ha hd
  obtain ⟨u, hu, ru⟩ := RelO.some_of (v := v) (o := mA n) (by rw [← l]; exact r n)
  obtain ⟨od2, ho2, hl⟩ := lookIn_ns n1
  obtain rfl : od2 = od := by rw [ho] at ho2; exact (Option.some.inj ho2).symm
  exact HandSPX.exc_get I1.kIn J T.ga T.gg T.exC (PySem.W.findObj_own T.hdC hno rfl (by rw [hl, hu])) (handed_of ru) ⟨v, H1, I1.tok _, ru, q⟩
end
/-- a def called by keywords alone, all its parameters named in their order -/
def CeK (P : Program) (w : World) (K : PySem.W.Frag) (mg : Str → Option Value) (base : Heap) (CX : CXT) (k : Nat) (x : Str) (ps : List Str) (sp : Sp) : Prop :=
  ∃ (f : Addr) (fd : FuncData), FnOk P w K mg base CX k f fd ps sp ∧ PySem.W.keepIn K (.ref f) = true ∧ (∀ us : List Value, us.length = ps.length → bindArgs fd ⟨[], ps.zip us⟩ = pure (ps.zip us)) ∧ mg x = some (.ref f)
def tCallKw (sp : Sp) (E : XK) (t : TA) : TE := fun σ H Q => t σ H fun vs H1 => sp vs H1 Q E
section
variable {X : Cx} {CX : CXT} {k : Nat} {ps : List Str} {sp : Sp} {E : XK} {x : Str} {p pos : Pos} {kws : List Keyword} {t : TA}
theorem pe_ceK (c : CeK X.prog X.w X.K X.mg X.base CX k x ps sp) (hr : Room k X.A) (hx : Passes CX X E) (ha : PK X kws t) (hg : Gl X x := by rfl) (hdb : (x == ("__debug__" : Str)) = false := by decide)
    (hall : (backToKw pos (keywordEach kws X.env)).all (·.1.isSome) = true := by rfl) (hks : (backToKw pos (keywordEach kws X.env)).filterMap (·.1) = ps := by rfl)
    (hpl : ((backTo pos (starEach [] X.env)).any (·.1) || (backToKw pos (keywordEach kws X.env)).any (·.1.isNone)) = false := by rfl) : PE X (.Call (.Name x p) [] kws pos) (tCallKw sp E t) := by
  obtain ⟨f, fd, F, kp, b, m⟩ := c
  refine ⟨fun pins s σ H Q I h => wpAny_Call_Name_kw (ld_glob I hg m (PySem.W.callWith_KW0 (h₀ := X.base) I.ok.mod.kin kp hall (thn (ha.run pos pins s σ H _ I h) fun ws s2 z => ?_) hpl) hdb)⟩
  obtain ⟨zs, H2, I2, rz, q2⟩ := z
  refine ⟨I2.kIn, ?_⟩
  rw [hks]
  have hl : ws.length = ps.length := by rw [← rz.length]; exact F.len _ _ _ _ q2
  refine wpAny_call (codeAny_mono (F.run X.A X.stack s2 H2 ⟨[], ps.zip ws⟩ ws zs Q E hr I2.env0 (.of_eq (b ws hl)) rz q2) fun r s' hq => ?_)
  match r, hq with
  | .error e, hq => exact hx pins σ H2 s2 e s' I2 hq
  | .ok (.ret u), hq => exact I2.after hq
end
/-- the class of an own exception that is made as a value: its fields, by place or by name -/
structure Ev (P : Program) (w : World) (K : PySem.W.Frag) (mg : Str → Option Value) (base : Heap) (x : Str) (fls : List Str) (C : Addr) (sp : Sp) : Prop where
  oc : OexC K C
  g : mg x = some (.ref C)
  ini : ∃ (fI : Addr) (fd : FuncData), PySem.W.findIn K (.ref C) "__init__" = some (some (.ref fI)) ∧ PySem.W.typeIn K (.ref fI) = some (.type "function") ∧ FnOk P w K mg base CX0 1 fI fd (Str.ofString "self" :: fls) sp ∧ Binds K fd (Str.ofString "self" :: fls) [] ∧
    ∀ us : List Value, ∀ a : Value, us.length = fls.length → bindArgs fd ⟨[a], fls.zip us⟩ = pure ((Str.ofString "self" :: fls).zip (a :: us))
def tMkV (C : Addr) (sp : Sp) (t : TA) : TE := fun σ H Q => t σ H fun vs H1 => vs.length ≤ 1000 ∧ ∀ a, H1 a = none → sp (.ref a :: vs) (upd H1 a (exo a C none)) (fun u H2 => u = .non ∧ Q (.ref a) H2) (fun _ _ _ => False)
section
variable {X : Cx} {x : Str} {fls : List Str} {C : Addr} {sp : Sp} {p pos : Pos} {kws : List Keyword} {t : TA}
theorem run_exV {pins : List (Addr × Obj)} {σ : L2.St} {H : Hp} {s : Shared} {Q : VK} {k : Nat} {ps : List Str} {fI : Addr} {fd : FuncData} {us all : List Value} {kw : List (Str × Value)} {vs : List V} (T : OexC X.K C) (iC : PySem.W.findIn X.K (.ref C) "__init__" = some (some (.ref fI)))
    (tI : PySem.W.typeIn X.K (.ref fI) = some (.type "function")) (F1 : FnOk X.prog X.w X.K X.mg X.base CX0 k fI fd ps sp) (hr : Room (k + 1) X.A) (I : Inv X pins σ H s) (hus : us.length ≤ sizeLine)
    (hb : ∀ (s' : Shared) (a : Value), X.K.In s'.heap → (a :: all).length = ps.length → BindsTo s' fd ⟨a :: us, kw⟩ (ps.zip (a :: all))) (r : Vals vs all)
    (h : ∀ a, H a = none → sp (.ref a :: vs) (upd H a (exo a C none)) (fun u H2 => u = .non ∧ Q (.ref a) H2) (fun _ _ _ => False)) : wpAny (model X.prog X.w) X.A (call (.ref C) us kw) (EP X pins σ Q) X.xe s := by
  obtain ⟨nm, q, N, bs, bm, sn, sub, ab, col, dd, k0, k1, k2, k3, k5, hC, hbm⟩ := T.cls
  obtain ⟨hp, g, dr, tk, os⟩ := s
  have hsz : hp.objs.size ≤ hp.objs.size + 1 := Nat.le_succ _
  have hn : H (hp.objs.size + 1) = none := I.hok.fresh hsz
  have hq := h (hp.objs.size + 1) hn
  have kk : ∀ b o, hp.get? b = some o → ((hp.push (PySem.W.kdv_tup us)).push (PySem.HandSPX.excO C hp.objs.size)).get? b = some o := fun b o e => Heap.get?_push_of_some _ (Heap.get?_push_of_some _ e)
  have hget : ((hp.push (PySem.W.kdv_tup us)).push (PySem.HandSPX.excO C hp.objs.size)).get? (hp.objs.size + 1) = some (PySem.HandSPX.excO C hp.objs.size) := by heap_get
  have I2 := I.laid (t' := tk) (a := hp.objs.size + 1) (o := exo (hp.objs.size + 1) C none) (h' := (hp.push (PySem.W.kdv_tup us)).push (PySem.HandSPX.excO C hp.objs.size)) kk hsz (exo_ok hget)
  have r2 : Vals (V.ref (hp.objs.size + 1) :: vs) (Value.ref (hp.objs.size + 1) :: all) := .cons rfl r
  have hl : (Value.ref (hp.objs.size + 1) :: all).length = ps.length := by
    have e := r2.length
    rw [F1.len _ _ _ _ hq] at e
    exact e.symm
  refine wpAny_call (PySem.HandSPX.kw_call F.excBase_ValueError (fun Y => PySem.HandSPX.refsVE_contains Y bm hbm) (I.kIn _ _ hC) hus (PySem.W.looks_findIn I.kIn iC) (fun self => PySem.W.bind_fn I.kIn self tI)
    (codeAny_mono (F1.run _ X.stack _ _ ⟨Value.ref (hp.objs.size + 1) :: us, kw⟩ (Value.ref (hp.objs.size + 1) :: all) _ _ (fun _ _ _ => False) (hr.make C us kw) (I2.env0.make C us kw) (hb _ (Value.ref (hp.objs.size + 1)) I2.kIn hl) r2 hq) fun r s' hq' => ?_))
  match r, hq' with
  | .error er, hq' => exact False.elim hq'
  | .ok (.ret u), hq' =>
    obtain ⟨v, H', I3, rv, ev, q3⟩ := I2.after hq'
    subst ev
    exact ⟨rv, ⟨V.ref (hp.objs.size + 1), H', I3, rfl, q3⟩⟩
theorem pe_evK (T : Ev X.prog X.w X.K X.mg X.base x fls C sp) (hr : Room 2 X.A) (ha : PK X kws t) (hg : Gl X x := by rfl) (hdb : (x == ("__debug__" : Str)) = false := by decide)
    (hall : (backToKw pos (keywordEach kws X.env)).all (·.1.isSome) = true := by rfl) (hks : (backToKw pos (keywordEach kws X.env)).filterMap (·.1) = fls := by rfl)
    (hpl : ((backTo pos (starEach [] X.env)).any (·.1) || (backToKw pos (keywordEach kws X.env)).any (·.1.isNone)) = false := by rfl) : PE X (.Call (.Name x p) [] kws pos) (tMkV C sp t) := by
  obtain ⟨fI, fd, i1, i2, F1, b, bk⟩ := T.ini
  refine ⟨fun pins s σ H Q I h => wpAny_Call_Name_kw (ld_glob I hg T.g (PySem.W.callWith_KW0 (h₀ := X.base) I.ok.mod.kin T.oc.kC hall (thn (ha.run pos pins s σ H _ I h) fun ws s2 z => ?_) hpl) hdb)⟩
  obtain ⟨zs, H2, I2, rz, _, q2⟩ := z
  refine ⟨I2.kIn, ?_⟩
  rw [hks]
  exact run_exV (us := []) T.oc i1 i2 F1 hr I2 (Nat.zero_le _) (fun s' a _ hl => .of_eq (bk ws a (by simpa using hl))) rz q2
theorem pe_ev1 {e : Expr} {es : List Expr} (T : Ev X.prog X.w X.K X.mg X.base x fls C sp) (hr : Room 2 X.A) (ha : PA X (e :: es) t) (hg : Gl X x := by rfl) (hdb : (x == ("__debug__" : Str)) = false := by decide)
    (he : starEach (e :: es) X.env = (false, eval e X.env) :: starEach es X.env := by rfl) (hpl : (backTo pos (starEach es X.env)).any (·.1) = false := by rfl) : PE X (.Call (.Name x p) (e :: es) [] pos) (tMkV C sp t) := by
  obtain ⟨fI, fd, i1, i2, F1, b, bk⟩ := T.ini
  refine ⟨fun pins s σ H Q I h => wpAny_Call_Name_kw (ld_glob I hg T.g (PySem.W.callWith_K (h₀ := X.base) I.ok.mod.kin T.oc.kC (thn (ha.run pos pins s σ H _ I h) fun ws s2 z => ?_) he hpl) hdb)⟩
  obtain ⟨zs, H2, I2, rz, hz, q2⟩ := z
  refine ⟨I2.kIn, run_exV (us := ws) T.oc i1 i2 F1 hr I2 (by rw [← Paired.length rz, sizeLine_eq]; omega) (fun s' a hK hl => ?_) rz q2⟩
  have := b s' (a :: ws) hK (by rw [List.append_nil]; exact hl)
  rwa [List.append_nil] at this
/-- X(), an own class without own __init__ -/
theorem pe_exc0 {bmB : List Value} {B newId initId : String} (F : ExcBaseFacts B newId initId bmB) (q : PySem.W.excIn X.K C bmB newId = true) (gC : X.mg x = some (.ref C)) (kC : PySem.W.keepIn X.K (.ref C) = true) (hg : Gl X x := by rfl) (hdb : (x == ("__debug__" : Str)) = false := by decide) :
    PE X (.Call (.Name x p) [] [] pos) (fun σ H Q => ∀ a, H a = none → Q (.ref a) (upd H a (ExO (.ref C) a))) := by
  refine ⟨fun pins s σ H Q I h => wpAny_Call_Name_kw (ld_glob I hg gC (PySem.W.callWith_K0 I.kIn kC ?_) hdb)⟩
  obtain ⟨bm, N, nm, qn, bs, hdct, sn, sub, ab, col, dd, k0, k1, k2, k3, k5, mN, hC, hN, hni, T⟩ := exc_obj I.kIn q
  refine wpAny_call_exc_subT F T hC hN hni (fun h' a hm => ?_) (Nat.zero_le _)
  have hn : H a = none := I.hok.gone hm.new
  obtain ⟨t, ht, _, _⟩ := hm.there
  exact ⟨.ref a, upd H a (ExO (.ref C) a), I.laidN hm.keeps hm.new hn (exO_ok ht ⟨rfl, rfl⟩ rfl rfl rfl (show 4 < 6 by decide)), rfl, h a hn⟩
end
end My

set_option maxHeartbeats 1000000
namespace My
/-! ### fractions -/
abbrev gc (a b : Int) : Int := ((Nat.gcd a.natAbs b.natAbs : Nat) : Int)
def fr (a b : Int) : Int × Int := (a / gc a b, b / gc a b)
theorem gc_pos {a b : Int} (h : 0 < b) : 0 < gc a b := by
  have : 0 < Nat.gcd a.natAbs b.natAbs := Nat.gcd_pos_of_pos_right _ (by omega)
  show (0 : Int) < ((Nat.gcd a.natAbs b.natAbs : Nat) : Int)
  omega
theorem gc_le {a b : Int} (h : 0 < b) : (gc a b).natAbs ≤ b.natAbs := by
  show (((Nat.gcd a.natAbs b.natAbs : Nat) : Int)).natAbs ≤ _
  rw [Int.natAbs_natCast]
  exact Nat.le_of_dvd (by omega) (Nat.gcd_dvd_right _ _)
theorem gc_dl (a b : Int) : gc a b ∣ a := Int.natAbs_dvd_natAbs.mp (by show (((Nat.gcd a.natAbs b.natAbs : Nat) : Int)).natAbs ∣ _; rw [Int.natAbs_natCast]; exact Nat.gcd_dvd_left _ _)
theorem gc_dr (a b : Int) : gc a b ∣ b := Int.natAbs_dvd_natAbs.mp (by show (((Nat.gcd a.natAbs b.natAbs : Nat) : Int)).natAbs ∣ _; rw [Int.natAbs_natCast]; exact Nat.gcd_dvd_right _ _)
/-- lowest terms, the lower part above nought -/
def Low (q : Int × Int) : Prop := 0 < q.2 ∧ gc q.1 q.2 = 1
def val (q : Int × Int) : Rat := (q.1 : Rat) / (q.2 : Rat)
theorem rat_ne {b : Int} (h : 0 < b) : (b : Rat) ≠ 0 := by
  have : b ≠ 0 := by omega
  simpa using this
theorem fr_pos {a b : Int} (h : 0 < b) : 0 < (fr a b).2 := by
  obtain ⟨c, e⟩ := gc_dr a b
  have g := gc_pos (a := a) h
  show 0 < b / gc a b
  have e2 : b / gc a b = c := by
    conv => lhs; lhs; rw [e]
    exact Int.mul_ediv_cancel_left _ (by omega)
  rw [e2]
  have : 0 < gc a b * c := by rw [← e]; exact h
  exact Int.pos_of_mul_pos_right this (by omega)
theorem fr_low {a b : Int} (h : 0 < b) : Low (fr a b) := by
  refine ⟨fr_pos h, ?_⟩
  have g := gc_pos (a := a) h
  have e1 : (fr a b).1.natAbs = a.natAbs / Nat.gcd a.natAbs b.natAbs := by
    show (a / gc a b).natAbs = _
    rw [Int.natAbs_ediv_of_dvd (gc_dl a b), Int.natAbs_natCast]
  have e2 : (fr a b).2.natAbs = b.natAbs / Nat.gcd a.natAbs b.natAbs := by
    show (b / gc a b).natAbs = _
    rw [Int.natAbs_ediv_of_dvd (gc_dr a b), Int.natAbs_natCast]
  show ((Nat.gcd (fr a b).1.natAbs (fr a b).2.natAbs : Nat) : Int) = 1
  have z : 0 < Nat.gcd a.natAbs b.natAbs := Nat.gcd_pos_of_pos_right _ (by omega)
  rw [e1, e2, Nat.gcd_div (Nat.gcd_dvd_left _ _) (Nat.gcd_dvd_right _ _), Nat.div_self z]
  rfl
theorem fr_val {a b : Int} (h : 0 < b) : val (fr a b) = (a : Rat) / (b : Rat) := by
  obtain ⟨c, e⟩ := gc_dl a b
  obtain ⟨d, e'⟩ := gc_dr a b
  have g := gc_pos (a := a) h
  have e1 : a / gc a b = c := by
    conv => lhs; lhs; rw [e]
    exact Int.mul_ediv_cancel_left _ (by omega)
  have e2 : b / gc a b = d := by
    conv => lhs; lhs; rw [e']
    exact Int.mul_ediv_cancel_left _ (by omega)
  have gr := rat_ne g
  have d0 : 0 < d := by have := fr_pos (a := a) h; show 0 < d; rw [← e2]; exact this
  have dr := rat_ne d0
  have br := rat_ne h
  show ((a / gc a b : Int) : Rat) / ((b / gc a b : Int) : Rat) = _
  rw [e1, e2]
  have ha : (a : Rat) = (gc a b : Rat) * c := by
    have := congrArg (fun z : Int => (z : Rat)) e
    simp only [Rat.intCast_mul] at this
    exact this
  have hb : (b : Rat) = (gc a b : Rat) * d := by
    have := congrArg (fun z : Int => (z : Rat)) e'
    simp only [Rat.intCast_mul] at this
    exact this
  rw [ha, hb] at *
  grind
theorem low_eq {p q : Int × Int} (hp : Low p) (hq : Low q) (h : val p = val q) : p = q := by
  obtain ⟨a, b⟩ := p
  obtain ⟨c, d⟩ := q
  obtain ⟨h1, h2⟩ := hp
  obtain ⟨h3, h4⟩ := hq
  simp only at h1 h2 h3 h4
  have br := rat_ne h1
  have dr := rat_ne h3
  have x : (a : Rat) * d = c * b := by
    have h' : (a : Rat) / b = (c : Rat) / d := h
    grind
  have x2 : a * d = c * b := by exact_mod_cast x
  have n1 : Nat.gcd a.natAbs b.natAbs = 1 := by
    have : ((Nat.gcd a.natAbs b.natAbs : Nat) : Int) = 1 := h2
    omega
  have n2 : Nat.gcd c.natAbs d.natAbs = 1 := by
    have : ((Nat.gcd c.natAbs d.natAbs : Nat) : Int) = 1 := h4
    omega
  have x3 : a.natAbs * d.natAbs = c.natAbs * b.natAbs := by rw [← Int.natAbs_mul, ← Int.natAbs_mul, x2]
  have c1 : Nat.Coprime b.natAbs a.natAbs := Nat.Coprime.symm n1
  have c2 : Nat.Coprime d.natAbs c.natAbs := Nat.Coprime.symm n2
  have d1 : b.natAbs ∣ d.natAbs := c1.dvd_of_dvd_mul_left (by rw [x3]; exact Nat.dvd_mul_left _ _)
  have d2 : d.natAbs ∣ b.natAbs := c2.dvd_of_dvd_mul_left (by rw [← x3]; exact Nat.dvd_mul_left _ _)
  have e : b = d := by
    have := Nat.dvd_antisymm d1 d2
    omega
  subst e
  have : a = c := Int.eq_of_mul_eq_mul_right (by omega) x2
  rw [this]
theorem fr_self {q : Int × Int} (h : Low q) : fr q.1 q.2 = q := low_eq (fr_low h.1) h (fr_val h.1)
/-! ### sums and products of the law's -/
def qadd (p q : Int × Int) : Int × Int := fr (p.1 * q.2 + q.1 * p.2) (p.2 * q.2)
def qmul (p q : Int × Int) : Int × Int := fr (p.1 * q.1) (p.2 * q.2)
theorem qadd_low {p q : Int × Int} (hp : 0 < p.2) (hq : 0 < q.2) : Low (qadd p q) := fr_low (Int.mul_pos hp hq)
theorem qmul_low {p q : Int × Int} (hp : 0 < p.2) (hq : 0 < q.2) : Low (qmul p q) := fr_low (Int.mul_pos hp hq)
theorem qadd_val {p q : Int × Int} (hp : 0 < p.2) (hq : 0 < q.2) : val (qadd p q) = val p + val q := by
  have h1 := rat_ne hp
  have h2 := rat_ne hq
  unfold qadd
  rw [fr_val (Int.mul_pos hp hq)]
  simp only [Rat.intCast_add, Rat.intCast_mul]
  unfold val
  grind
theorem qmul_val {p q : Int × Int} (hp : 0 < p.2) (hq : 0 < q.2) : val (qmul p q) = val p * val q := by
  have h1 := rat_ne hp
  have h2 := rat_ne hq
  unfold qmul
  rw [fr_val (Int.mul_pos hp hq)]
  simp only [Rat.intCast_mul]
  unfold val
  grind
/-! ### the common denominator -/
def lcmL (s : List (Int × Int)) : Nat := s.foldl (fun z q => Nat.lcm z q.2.natAbs) 1
theorem lcmL_snoc (s : List (Int × Int)) (q : Int × Int) : lcmL (s ++ [q]) = Nat.lcm (lcmL s) q.2.natAbs := by
  unfold lcmL
  rw [List.foldl_append]
  rfl
theorem lcm_le (a b : Nat) : Nat.lcm a b ≤ a * b := by
  unfold Nat.lcm
  exact Nat.div_le_self _ _
/-- induction from the end -/
@[elab_as_elim] theorem snoc_ind {α : Type} {P : List α → Prop} (l : List α) (h0 : P []) (h1 : ∀ l a, P l → P (l ++ [a])) : P l := by
  have : ∀ n (l : List α), l.length = n → P l := by
    intro n
    induction n with
    | zero => intro l e; rw [List.eq_nil_of_length_eq_zero e]; exact h0
    | succ n ih =>
      intro l e
      have ne : l ≠ [] := by intro z; rw [z] at e; cases e
      rw [← List.dropLast_concat_getLast ne]
      exact h1 _ _ (ih _ (by rw [List.length_dropLast, e]; rfl))
  exact this _ l rfl
theorem lcmL_lt {pb : Nat} (s : List (Int × Int)) (h : ∀ q ∈ s, q.2.natAbs < 2 ^ pb) : lcmL s < 2 ^ (pb * s.length + 1) := by
  revert h
  refine snoc_ind s ?_ ?_
  · intro _
    simp [lcmL]
  · intro l q ih h
    rw [lcmL_snoc]
    have h1 := ih fun r hr => h r (List.mem_append_left _ hr)
    have h2 := h q (List.mem_append_right _ List.mem_cons_self)
    refine Nat.lt_of_le_of_lt (lcm_le _ _) ?_
    have h3 := Nat.mul_lt_mul'' h1 h2
    rw [← Nat.pow_add] at h3
    rw [List.length_append, List.length_singleton, Nat.mul_add, Nat.mul_one]
    rwa [show pb * l.length + pb + 1 = pb * l.length + 1 + pb by omega]
theorem lcmL_pos (s : List (Int × Int)) (h : ∀ q ∈ s, 0 < q.2) : 0 < lcmL s := by
  revert h
  refine snoc_ind s ?_ ?_
  · intro _
    decide
  · intro l q ih h
    rw [lcmL_snoc]
    have h1 := ih fun r hr => h r (List.mem_append_left _ hr)
    have h2 := h q (List.mem_append_right _ List.mem_cons_self)
    exact Nat.lcm_pos h1 (by omega)
theorem lcmL_dvd (s : List (Int × Int)) : ∀ q ∈ s, q.2.natAbs ∣ lcmL s := by
  refine snoc_ind s ?_ ?_
  · intro q h
    cases h
  · intro l q ih r h
    rw [lcmL_snoc]
    rcases List.mem_append.mp h with z | z
    · exact Nat.dvd_trans (ih r z) (Nat.dvd_lcm_left _ _)
    · rw [List.mem_singleton.mp z]
      exact Nat.dvd_lcm_right _ _
def tops (s : List (Int × Int)) : List Int := s.map fun q => q.1 * ((lcmL s : Int) / q.2)
theorem natAbs_div_le (a b : Int) : (a / b).natAbs ≤ a.natAbs := Int.natAbs_ediv_le_natAbs a b
theorem tops_lt {tb pb : Nat} {s : List (Int × Int)} (ht : ∀ q ∈ s, q.1.natAbs < 2 ^ tb) (hp : ∀ q ∈ s, q.2.natAbs < 2 ^ pb) : ∀ t ∈ tops s, t.natAbs < 2 ^ (tb + (pb * s.length + 1)) := by
  intro t h
  obtain ⟨q, hq, rfl⟩ := List.mem_map.mp h
  rw [Int.natAbs_mul, Nat.pow_add]
  refine Nat.mul_lt_mul'' (ht q hq) (Nat.lt_of_le_of_lt (natAbs_div_le _ _) ?_)
  rw [Int.natAbs_natCast]
  exact lcmL_lt s hp
/-- a top over the common denominator is the number -/
theorem top_val {s : List (Int × Int)} (hp : ∀ q ∈ s, 0 < q.2) {q : Int × Int} (hq : q ∈ s) : ((q.1 * ((lcmL s : Int) / q.2) : Int) : Rat) / ((lcmL s : Int) : Rat) = val q := by
  have h0 := hp q hq
  have d : q.2 ∣ (lcmL s : Int) := Int.natAbs_dvd_natAbs.mp (by rw [Int.natAbs_natCast]; exact lcmL_dvd s q hq)
  obtain ⟨c, e⟩ := d
  have lp : (0 : Int) < (lcmL s : Int) := by have := lcmL_pos s hp; omega
  have e2 : (lcmL s : Int) / q.2 = c := by
    rw [e]
    exact Int.mul_ediv_cancel_left _ (by omega)
  rw [e2]
  have r1 := rat_ne h0
  have r2 := rat_ne lp
  have e3 : (((lcmL s : Int)) : Rat) = (q.2 : Rat) * c := by
    have := congrArg (fun z : Int => (z : Rat)) e
    simp only [Rat.intCast_mul] at this
    exact this
  simp only [Rat.intCast_mul]
  unfold val
  rw [e3] at r2 ⊢
  grind
/-! ### the value of a polynomial -/
def pval : List Rat → Rat → Rat
  | [], _ => 0
  | c :: cs, x => c + x * pval cs x
def hstep (xn xd : Int) (z : Int × Int) (t : Int) : Int × Int := (z.1 * xn + t * (z.2 * xd), z.2 * xd)
/-- the program's own way: (found, scale) behind the tops ts from the head down -/
def horn (xn xd : Int) (head : Int) (rest : List Int) : Int × Int := rest.foldl (hstep xn xd) (head, 1)
theorem horn_snoc (xn xd head : Int) (rest : List Int) (t : Int) : horn xn xd head (rest ++ [t]) = hstep xn xd (horn xn xd head rest) t := by
  unfold horn
  rw [List.foldl_append]
  rfl
theorem horn_pos {xn xd head : Int} (h : 0 < xd) (rest : List Int) : 0 < (horn xn xd head rest).2 := by
  refine snoc_ind rest (by show (0 : Int) < 1; decide) ?_
  intro l t ih
  rw [horn_snoc]
  exact Int.mul_pos ih h
theorem horn_val {xn xd head : Int} (h : 0 < xd) (rest : List Int) : ((horn xn xd head rest).1 : Rat) / ((horn xn xd head rest).2 : Rat) = pval ((rest.reverse ++ [head]).map fun z : Int => (z : Rat)) ((xn : Rat) / (xd : Rat)) := by
  refine snoc_ind rest ?_ ?_
  · show ((head : Int) : Rat) / ((1 : Int) : Rat) = (head : Rat) + ((xn : Rat) / xd) * 0
    have : ((1 : Int) : Rat) = 1 := rfl
    rw [this]
    grind
  · intro l t ih
    rw [horn_snoc, List.reverse_append]
    show ((((horn xn xd head l).1 * xn + t * ((horn xn xd head l).2 * xd) : Int)) : Rat) / (((horn xn xd head l).2 * xd : Int) : Rat) = (t : Rat) + ((xn : Rat) / xd) * pval ((l.reverse ++ [head]).map fun z : Int => (z : Rat)) ((xn : Rat) / (xd : Rat))
    rw [← ih]
    have h1 := rat_ne (horn_pos (head := head) (xn := xn) h l)
    have h2 := rat_ne h
    simp only [Rat.intCast_add, Rat.intCast_mul]
    grind
theorem pval_scale (k : Rat) (x : Rat) : ∀ cs : List Rat, pval (cs.map fun c => c * k) x = pval cs x * k
  | [] => by simp [pval]
  | c :: cs => by
    show c * k + x * pval (cs.map fun c => c * k) x = (c + x * pval cs x) * k
    rw [pval_scale k x cs]
    grind
/-- the value as the program reckons it, s = rest of the numbers and the head -/
def valOf (s : List (Int × Int)) (x : Int × Int) : Int × Int :=
  let z := horn x.1 x.2 ((tops s).getLast?.getD 0) (tops s).dropLast.reverse
  fr z.1 ((lcmL s : Int) * z.2)
theorem valOf_low {s : List (Int × Int)} {x : Int × Int} (hs : ∀ q ∈ s, 0 < q.2) (hx : 0 < x.2) : Low (valOf s x) :=
  fr_low (Int.mul_pos (by have := lcmL_pos s hs; omega) (horn_pos hx _))
theorem tops_ne {s : List (Int × Int)} (h : s ≠ []) : tops s ≠ [] := by
  unfold tops
  simpa using h
theorem valOf_val {s : List (Int × Int)} {x : Int × Int} (hs : ∀ q ∈ s, 0 < q.2) (hn : s ≠ []) (hx : 0 < x.2) : val (valOf s x) = pval (s.map val) (val x) := by
  have lp : (0 : Int) < (lcmL s : Int) := by have := lcmL_pos s hs; omega
  have hp := horn_pos (xn := x.1) (head := (tops s).getLast?.getD 0) hx (tops s).dropLast.reverse
  have hv := horn_val (xn := x.1) (head := (tops s).getLast?.getD 0) hx (tops s).dropLast.reverse
  unfold valOf
  simp only
  rw [fr_val (Int.mul_pos lp hp)]
  rw [List.reverse_reverse] at hv
  have e : (tops s).dropLast ++ [(tops s).getLast?.getD 0] = tops s := by
    rw [List.getLast?_eq_some_getLast (tops_ne hn)]
    exact List.dropLast_concat_getLast (tops_ne hn)
  rw [e] at hv
  have r1 := rat_ne lp
  have r2 := rat_ne hp
  have e2 : (tops s).map (fun z : Int => (z : Rat)) = (s.map val).map fun c => c * ((lcmL s : Int) : Rat) := by
    unfold tops
    rw [List.map_map, List.map_map]
    refine List.map_congr_left fun q hq => ?_
    have := top_val hs hq
    show ((q.1 * ((lcmL s : Int) / q.2) : Int) : Rat) = val q * ((lcmL s : Int) : Rat)
    rw [← this]
    grind
  rw [e2, pval_scale] at hv
  unfold val at hv ⊢
  simp only [Rat.intCast_mul]
  grind
/-- the law's own sum of powers -/
def sumStep (x : Int × Int) (z : (Int × Int) × (Int × Int)) (c : Int × Int) : (Int × Int) × (Int × Int) := (qadd z.1 (qmul c z.2), qmul z.2 x)
def sumPow (s : List (Int × Int)) (x : Int × Int) : (Int × Int) × (Int × Int) := s.foldl (sumStep x) ((0, 1), (1, 1))
theorem sumPow_ok {x : Int × Int} (hx : 0 < x.2) : ∀ (s : List (Int × Int)) (z : (Int × Int) × (Int × Int)), (∀ q ∈ s, 0 < q.2) → Low z.1 → Low z.2 →
    Low (s.foldl (sumStep x) z).1 ∧ Low (s.foldl (sumStep x) z).2 ∧ val (s.foldl (sumStep x) z).1 = val z.1 + val z.2 * pval (s.map val) (val x)
  | [], z, _, h1, h2 => ⟨h1, h2, by show val z.1 = val z.1 + val z.2 * 0; grind⟩
  | c :: s, z, h, h1, h2 => by
    have hc := h c List.mem_cons_self
    have m := qmul_low hc h2.1
    have i := sumPow_ok hx s (sumStep x z c) (fun q hq => h q (List.mem_cons_of_mem _ hq)) (qadd_low h1.1 m.1) (qmul_low h2.1 hx)
    refine ⟨i.1, i.2.1, ?_⟩
    show val (s.foldl (sumStep x) (sumStep x z c)).1 = _
    rw [i.2.2]
    show val (qadd z.1 (qmul c z.2)) + val (qmul z.2 x) * _ = val z.1 + val z.2 * (val c + val x * pval (s.map val) (val x))
    rw [qadd_val h1.1 m.1, qmul_val hc h2.1, qmul_val h2.1 hx]
    grind
theorem low_0 : Low (0, 1) := ⟨by decide, by decide⟩
theorem low_1 : Low (1, 1) := ⟨by decide, by decide⟩
/-- both ways lead to one number -/
theorem value_is {s : List (Int × Int)} {x : Int × Int} (hs : ∀ q ∈ s, 0 < q.2) (hn : s ≠ []) (hx : 0 < x.2) : valOf s x = (sumPow s x).1 := by
  obtain ⟨h1, _, h3⟩ := sumPow_ok hx s ((0, 1), (1, 1)) hs low_0 low_1
  refine low_eq (valOf_low hs hx) h1 ?_
  rw [valOf_val hs hn hx]
  show _ = val (s.foldl (sumStep x) ((0, 1), (1, 1))).1
  rw [h3]
  have a : val (0, 1) = 0 := by unfold val; simp; grind
  have b : val (1, 1) = 1 := by unfold val; simp; grind
  rw [a, b]
  grind
end My

set_option maxHeartbeats 1000000
namespace My
/-! ### polynomials by their values -/
theorem pval_snoc (x : Rat) : ∀ (p : List Rat) (c : Rat), pval (p ++ [c]) x = pval p x + c * x ^ p.length
  | [], c => by show c + x * 0 = 0 + c * x ^ 0; grind
  | a :: p, c => by
    show a + x * pval (p ++ [c]) x = a + x * pval p x + c * x ^ (p.length + 1)
    rw [pval_snoc x p c, Rat.pow_succ]
    grind
theorem rpow_add (x : Rat) (a : Nat) : ∀ b : Nat, x ^ (a + b) = x ^ a * x ^ b
  | 0 => by rw [Rat.pow_zero]; show x ^ a = _; grind
  | b + 1 => by rw [show a + (b + 1) = (a + b) + 1 by omega, Rat.pow_succ, rpow_add x a b, Rat.pow_succ]; grind
def psub : List Rat → List Rat → List Rat
  | [], q => q.map fun c => -c
  | a :: p, [] => a :: p
  | a :: p, b :: q => (a - b) :: psub p q
theorem pval_neg (x : Rat) : ∀ q : List Rat, pval (q.map fun c => -c) x = -pval q x
  | [] => by show (0 : Rat) = -0; grind
  | c :: q => by
    show -c + x * pval (q.map fun c => -c) x = -(c + x * pval q x)
    rw [pval_neg x q]
    grind
theorem pval_psub (x : Rat) : ∀ p q : List Rat, pval (psub p q) x = pval p x - pval q x
  | [], q => by
    show pval (q.map fun c => -c) x = 0 - pval q x
    rw [pval_neg]
    grind
  | a :: p, [] => by
    show pval (a :: p) x = pval (a :: p) x - 0
    grind
  | a :: p, b :: q => by
    show a - b + x * pval (psub p q) x = (a + x * pval p x) - (b + x * pval q x)
    rw [pval_psub x p q]
    grind
theorem syn (a : Rat) : ∀ p : List Rat, p ≠ [] → ∃ q : List Rat, q.length + 1 = p.length ∧ ∀ x, pval p x = pval p a + (x - a) * pval q x
  | [], h => absurd rfl h
  | [c], _ => ⟨[], rfl, fun x => by show c + x * 0 = c + a * 0 + (x - a) * 0; grind⟩
  | c :: d :: p, _ => by
    obtain ⟨q, h1, h2⟩ := syn a (d :: p) (by simp)
    refine ⟨pval (d :: p) a :: q, by simp only [List.length_cons] at h1 ⊢; omega, fun x => ?_⟩
    show c + x * pval (d :: p) x = c + a * pval (d :: p) a + (x - a) * (pval (d :: p) a + x * pval q x)
    rw [h2 x]
    grind
theorem roots_all : ∀ (n : Nat) (p : List Rat), p.length ≤ n → ∀ as : List Rat, as.Nodup → n ≤ as.length → (∀ a ∈ as, pval p a = 0) → ∀ x, pval p x = 0
  | 0, p, h, _, _, _, _, x => by
    have : p = [] := List.eq_nil_of_length_eq_zero (by omega)
    rw [this]
    rfl
  | n + 1, p, h, as, hn, hl, hr, x => by
    by_cases hp : p = []
    · rw [hp]
      rfl
    cases as with
    | nil => simp at hl
    | cons a as =>
      obtain ⟨q, h1, h2⟩ := syn a p hp
      have ha := hr a List.mem_cons_self
      have hq := roots_all n q (by omega) as (List.nodup_cons.mp hn).2 (by simp only [List.length_cons] at hl; omega) (fun b hb => by
        have hb0 := hr b (List.mem_cons_of_mem _ hb)
        rw [h2 b, ha] at hb0
        have hne : b - a ≠ 0 := by
          intro z
          have : b = a := by grind
          exact (List.nodup_cons.mp hn).1 (this ▸ hb)
        have : (b - a) * pval q b = 0 := by grind
        rcases Rat.mul_eq_zero.mp this with z | z
        · exact absurd z hne
        · exact z)
      rw [h2 x, ha, hq x]
      grind
def ptsQ (n : Nat) : List Rat := (List.range n).map fun k => ((k + 1 : Nat) : Rat)
theorem ptsQ_nodup (n : Nat) : (ptsQ n).Nodup := by
  unfold ptsQ List.Nodup
  rw [List.pairwise_map]
  refine List.Pairwise.imp ?_ List.nodup_range
  intro a b h z
  exact h (by have : a + 1 = b + 1 := by exact_mod_cast z
              omega)
theorem ptsQ_ne {n : Nat} : ∀ a ∈ ptsQ n, a ≠ 0 := by
  intro a h z
  obtain ⟨k, _, rfl⟩ := List.mem_map.mp h
  have : k + 1 = 0 := by exact_mod_cast z
  omega
theorem pall {p q : List Rat} (h : ∀ x, x ≠ 0 → pval p x = pval q x) : ∀ x, pval p x = pval q x := fun x => by
  have := roots_all (psub p q).length (psub p q) (Nat.le_refl _) (ptsQ (psub p q).length) (ptsQ_nodup _) (by unfold ptsQ; simp) (fun a ha => by
    rw [pval_psub, h a (ptsQ_ne a ha)]
    grind) x
  rw [pval_psub] at this
  grind
theorem pcons {a b : Rat} {p q : List Rat} (h : ∀ x, pval (a :: p) x = pval (b :: q) x) : a = b ∧ ∀ x, pval p x = pval q x := by
  have h0 := h 0
  have e : a = b := by
    have h0 : a + 0 * pval p 0 = b + 0 * pval q 0 := h0
    grind
  refine ⟨e, pall fun x hx => ?_⟩
  have h1 : a + x * pval p x = b + x * pval q x := h x
  have h2 : x * (pval p x - pval q x) = 0 := by grind
  rcases Rat.mul_eq_zero.mp h2 with z | z
  · exact absurd z hx
  · grind
theorem pnil {p : List Rat} (h : ∀ x, pval p x = 0) : ∀ c ∈ p, c = 0 := by
  induction p with
  | nil => intro c hc; cases hc
  | cons a p ih =>
    have h' : ∀ x, pval (a :: p) x = pval (0 :: []) x := fun x => by
      rw [h x]
      show 0 = 0 + x * 0
      grind
    obtain ⟨e, h2⟩ := pcons h'
    intro c hc
    rcases List.mem_cons.mp hc with z | z
    · rw [z, e]
    · exact ih (fun x => h2 x) c z
/-- the head is not nought -/
def Tr (s : List (Int × Int)) : Prop := ∀ q, s.getLast? = some q → q.1 ≠ 0
theorem Tr.tail {a : Int × Int} {s : List (Int × Int)} (h : Tr (a :: s)) : Tr s := fun q hq => h q (by
  cases s with
  | nil => cases hq
  | cons b s => rw [List.getLast?_cons_cons]; exact hq)
theorem val_zero {q : Int × Int} (h : 0 < q.2) (z : val q = 0) : q.1 = 0 := by
  unfold val at z
  have hr := rat_ne h
  have : (q.1 : Rat) = 0 := by grind
  exact_mod_cast this
theorem canon_nil {t : List (Int × Int)} (ht : ∀ q ∈ t, Low q) (tt : Tr t) (h : ∀ x, pval (t.map val) x = 0) : t = [] := by
  have h0 := pnil h
  by_cases e : t = []
  · exact e
  · have h1 := tt (t.getLast e) (List.getLast?_eq_some_getLast e)
    have hm := List.getLast_mem e
    exact absurd (val_zero (ht _ hm).1 (h0 _ (List.mem_map.mpr ⟨_, hm, rfl⟩))) h1
theorem canon : ∀ {s t : List (Int × Int)}, (∀ q ∈ s, Low q) → (∀ q ∈ t, Low q) → Tr s → Tr t → (∀ x, pval (s.map val) x = pval (t.map val) x) → s = t
  | [], t, _, ht, _, tt, h => (canon_nil ht tt fun x => (h x).symm).symm
  | a :: s, [], hs, _, ts, _, h => canon_nil hs ts h
  | a :: s, b :: t, hs, ht, ts, tt, h => by
    obtain ⟨e, h2⟩ := pcons h
    rw [low_eq (hs a List.mem_cons_self) (ht b List.mem_cons_self) e, canon (fun q hq => hs q (List.mem_cons_of_mem _ hq)) (fun q hq => ht q (List.mem_cons_of_mem _ hq)) ts.tail tt.tail h2]
/-! ### lists of integers as polynomials -/
def iv (l : List Int) (x : Rat) : Rat := pval (l.map fun z : Int => (z : Rat)) x
theorem iv_nil (x : Rat) : iv [] x = 0 := rfl
theorem iv_cons (a : Int) (l : List Int) (x : Rat) : iv (a :: l) x = (a : Rat) + x * iv l x := rfl
theorem iv_snoc (l : List Int) (c : Int) (x : Rat) : iv (l ++ [c]) x = iv l x + c * x ^ l.length := by
  unfold iv
  rw [List.map_append]
  show pval (_ ++ [(c : Rat)]) x = _
  rw [pval_snoc, List.length_map]
theorem iv_inj : ∀ {s t : List Int}, s.length = t.length → (∀ x, iv s x = iv t x) → s = t
  | [], [], _, _ => rfl
  | [], _ :: _, h, _ => by simp at h
  | _ :: _, [], h, _ => by simp at h
  | a :: s, b :: t, h, e => by
    obtain ⟨e1, e2⟩ := pcons e
    have e1 : (a : Rat) = (b : Rat) := e1
    have e1' : a = b := by exact_mod_cast e1
    rw [e1', iv_inj (by simpa using h) e2]
def addI (z : List Int) (k : Nat) (v : Int) : List Int := z.set k (z.getD k 0 + v)
theorem addI_len (z : List Int) (k : Nat) (v : Int) : (addI z k v).length = z.length := List.length_set
theorem addI_zero (z : List Int) (k : Nat) : addI z k 0 = z := by
  unfold addI
  by_cases h : k < z.length
  · rw [List.getD_eq_getElem?_getD, List.getElem?_eq_getElem h]
    simp
  · exact List.set_eq_of_length_le (by omega)
theorem iv_addI (x : Rat) (v : Int) : ∀ (z : List Int) (k : Nat), k < z.length → iv (addI z k v) x = iv z x + v * x ^ k
  | [], k, h => by simp at h
  | a :: z, 0, _ => by
    show ((a + v : Int) : Rat) + x * iv z x = (a : Rat) + x * iv z x + v * x ^ 0
    rw [Rat.intCast_add]
    grind
  | a :: z, k + 1, h => by
    show (a : Rat) + x * iv (addI z k v) x = (a : Rat) + x * iv z x + v * x ^ (k + 1)
    rw [iv_addI x v z k (by simpa using h), Rat.pow_succ]
    grind
theorem getD_addI (z : List Int) (k : Nat) (v : Int) (j : Nat) (h : j ≠ k) : (addI z k v).getD j 0 = z.getD j 0 := by
  unfold addI
  rw [List.getD_eq_getElem?_getD, List.getElem?_set_ne (Ne.symm h), List.getD_eq_getElem?_getD]
theorem getD_addI_same (z : List Int) (k : Nat) (v : Int) (h : k < z.length) : (addI z k v).getD k 0 = z.getD k 0 + v := by
  unfold addI
  rw [List.getD_eq_getElem?_getD, List.getElem?_set_self h]
  rfl
def nrm (l : List Int) : Nat := (l.map Int.natAbs).sum
theorem nrm_cons (a : Int) (l : List Int) : nrm (a :: l) = a.natAbs + nrm l := by unfold nrm; simp
theorem nrm_append (l m : List Int) : nrm (l ++ m) = nrm l + nrm m := by unfold nrm; simp
theorem nrm_mem : ∀ {l : List Int} {z : Int}, z ∈ l → z.natAbs ≤ nrm l
  | [], z, h => by cases h
  | a :: l, z, h => by
    rw [nrm_cons]
    rcases List.mem_cons.mp h with e | e
    · rw [e]; omega
    · have := nrm_mem e; omega
theorem nrm_addI (v : Int) : ∀ (z : List Int) (k : Nat), nrm (addI z k v) ≤ nrm z + v.natAbs
  | [], k => by show nrm [] ≤ _; unfold nrm; simp
  | a :: z, 0 => by
    show nrm ((a + v) :: z) ≤ _
    rw [nrm_cons, nrm_cons]
    have := Int.natAbs_add_le a v
    omega
  | a :: z, k + 1 => by
    show nrm (a :: addI z k v) ≤ _
    rw [nrm_cons, nrm_cons]
    have := nrm_addI v z k
    omega
def rowI (i : Nat) (l : Int) (t z : List Int) (m : Nat) : List Int := (List.range m).foldl (fun z j => addI z (i + j) (l * t.getD j 0)) z
def mulI (s t : List Int) (m : Nat) : List Int := (List.range m).foldl (fun z i => rowI i (s.getD i 0) t z t.length) (List.replicate (s.length + t.length - 1) 0)
theorem rowI_succ (i : Nat) (l : Int) (t z : List Int) (m : Nat) : rowI i l t z (m + 1) = addI (rowI i l t z m) (i + m) (l * t.getD m 0) := by
  unfold rowI
  rw [List.range_succ, List.foldl_append]
  rfl
theorem mulI_succ (s t : List Int) (m : Nat) : mulI s t (m + 1) = rowI m (s.getD m 0) t (mulI s t m) t.length := by
  unfold mulI
  rw [List.range_succ, List.foldl_append]
  rfl
theorem rowI_len (i : Nat) (l : Int) (t z : List Int) : ∀ m, (rowI i l t z m).length = z.length
  | 0 => rfl
  | m + 1 => by rw [rowI_succ, addI_len, rowI_len i l t z m]
theorem mulI_len (s t : List Int) : ∀ m, (mulI s t m).length = s.length + t.length - 1
  | 0 => by unfold mulI; simp
  | m + 1 => by rw [mulI_succ, rowI_len, mulI_len s t m]
theorem rowI_zero (i : Nat) (t z : List Int) : ∀ m, rowI i 0 t z m = z
  | 0 => rfl
  | m + 1 => by rw [rowI_succ, rowI_zero i t z m, Int.zero_mul, addI_zero]
theorem take_getD {t : List Int} {m : Nat} (h : m < t.length) : t.take (m + 1) = t.take m ++ [t.getD m 0] := by
  rw [List.getD_eq_getElem?_getD, List.getElem?_eq_getElem h]
  exact (List.take_append_getElem h).symm
theorem iv_rowI (x : Rat) (i : Nat) (l : Int) (t z : List Int) : ∀ m, m ≤ t.length → i + m ≤ z.length → iv (rowI i l t z m) x = iv z x + l * x ^ i * iv (t.take m) x
  | 0, _, _ => by
    show iv z x = iv z x + l * x ^ i * 0
    grind
  | m + 1, h1, h2 => by
    rw [rowI_succ, iv_addI x _ _ _ (by rw [rowI_len]; omega), iv_rowI x i l t z m (by omega) (by omega), take_getD (by omega), iv_snoc, List.length_take, Nat.min_eq_left (by omega), rpow_add, Rat.intCast_mul]
    grind
theorem iv_mulI (x : Rat) (s t : List Int) (ht : t ≠ []) : ∀ m, m ≤ s.length → iv (mulI s t m) x = iv (s.take m) x * iv t x
  | 0, _ => by
    have : iv (mulI s t 0) x = 0 := by
      show iv (List.replicate _ 0) x = 0
      generalize s.length + t.length - 1 = n
      induction n with
      | zero => rfl
      | succ n ih =>
        rw [List.replicate_succ, iv_cons, ih]
        show (0 : Rat) + x * 0 = 0
        grind
    rw [this]
    show (0 : Rat) = 0 * _
    grind
  | m + 1, h => by
    have lt : 0 < t.length := List.length_pos_iff.mpr ht
    rw [mulI_succ, iv_rowI x _ _ _ _ _ (Nat.le_refl _) (by rw [mulI_len]; omega), iv_mulI x s t ht m (by omega), List.take_length, take_getD (by omega), iv_snoc, List.length_take, Nat.min_eq_left (by omega)]
    grind
theorem nrm_rowI (i : Nat) (l : Int) (t z : List Int) : ∀ m, m ≤ t.length → nrm (rowI i l t z m) ≤ nrm z + l.natAbs * nrm (t.take m)
  | 0, _ => by show nrm z ≤ _; omega
  | m + 1, h => by
    rw [rowI_succ, take_getD (by omega), nrm_append]
    have h1 := nrm_addI (l * t.getD m 0) (rowI i l t z m) (i + m)
    have h2 := nrm_rowI i l t z m (by omega)
    have h3 : nrm [t.getD m 0] = (t.getD m 0).natAbs := by unfold nrm; simp
    rw [h3, Nat.mul_add]
    rw [Int.natAbs_mul] at h1
    omega
theorem nrm_zero : ∀ n, nrm (List.replicate n 0) = 0
  | 0 => rfl
  | n + 1 => by rw [List.replicate_succ, nrm_cons, nrm_zero n]; rfl
theorem nrm_mulI (s t : List Int) : ∀ m, m ≤ s.length → nrm (mulI s t m) ≤ nrm (s.take m) * nrm t
  | 0, _ => by
    show nrm (List.replicate _ 0) ≤ _
    rw [nrm_zero]
    omega
  | m + 1, h => by
    rw [mulI_succ, take_getD (by omega), nrm_append]
    have h1 := nrm_rowI m (s.getD m 0) t (mulI s t m) t.length (Nat.le_refl _)
    rw [List.take_length] at h1
    have h2 := nrm_mulI s t m (by omega)
    have h3 : nrm [s.getD m 0] = (s.getD m 0).natAbs := by unfold nrm; simp
    rw [h3, Nat.add_mul]
    omega
theorem nrm_take (s : List Int) (m : Nat) : nrm (s.take m) ≤ nrm s := by
  have := nrm_append (s.take m) (s.drop m)
  rw [List.take_append_drop] at this
  omega
theorem nrm_rowI_le (s t : List Int) {i m : Nat} (hi : i < s.length) (hm : m ≤ t.length) : nrm (rowI i (s.getD i 0) t (mulI s t i) m) ≤ nrm s * nrm t := by
  have h1 := nrm_rowI i (s.getD i 0) t (mulI s t i) m hm
  have h2 := nrm_mulI s t i (by omega)
  have h3 := nrm_take t m
  have h4 := nrm_take s (i + 1)
  rw [take_getD hi, nrm_append] at h4
  have h5 : nrm [s.getD i 0] = (s.getD i 0).natAbs := by unfold nrm; simp
  rw [h5] at h4
  have h6 := Nat.mul_le_mul_left (s.getD i 0).natAbs h3
  have h7 := Nat.mul_le_mul_right (nrm t) h4
  rw [Nat.add_mul] at h7
  omega
theorem getD_rowI (i : Nat) (l : Int) (t z : List Int) (j : Nat) : ∀ m, i + m ≤ j → (rowI i l t z m).getD j 0 = z.getD j 0
  | 0, _ => rfl
  | m + 1, h => by rw [rowI_succ, getD_addI _ _ _ _ (by omega), getD_rowI i l t z j m (by omega)]
theorem getD_mulI (s t : List Int) (j : Nat) : ∀ m, m + t.length ≤ j + 1 → (mulI s t m).getD j 0 = 0
  | 0, _ => by
    show (List.replicate _ 0).getD j 0 = 0
    rw [List.getD_eq_getElem?_getD, List.getElem?_replicate]
    split <;> rfl
  | m + 1, h => by rw [mulI_succ, getD_rowI _ _ _ _ _ _ (by omega), getD_mulI s t j m (by omega)]
theorem top_mulI {s t : List Int} {a b : Nat} (hs : s.length = a + 1) (ht : t.length = b + 1) : (mulI s t s.length).getD (a + b) 0 = s.getD a 0 * t.getD b 0 := by
  rw [hs, mulI_succ, ht, rowI_succ, getD_addI_same _ _ _ (by rw [rowI_len, mulI_len]; omega), getD_rowI _ _ _ _ _ _ (by omega), getD_mulI _ _ _ _ (by omega)]
  omega
/-! ### one step put into another one, as the program does -/
def putS (I : List Int) (B : Int) (z : List Int × Int) (top : Int) : List Int × Int := (addI (mulI I z.1 I.length) 0 (top * (z.2 * B)), z.2 * B)
def putI (I : List Int) (B : Int) (head : Int) (rest : List Int) : List Int × Int := rest.foldl (putS I B) ([head], 1)
theorem putI_snoc (I : List Int) (B head : Int) (rest : List Int) (t : Int) : putI I B head (rest ++ [t]) = putS I B (putI I B head rest) t := by
  unfold putI
  rw [List.foldl_append]
  rfl
theorem putI_pos {I : List Int} {B head : Int} (h : 0 < B) (rest : List Int) : 0 < (putI I B head rest).2 := by
  refine snoc_ind rest (by show (0 : Int) < 1; decide) ?_
  intro l t ih
  rw [putI_snoc]
  exact Int.mul_pos ih h
theorem putI_len {I : List Int} {n : Nat} (hI : I.length = n + 1) (B head : Int) (rest : List Int) : (putI I B head rest).1.length = n * rest.length + 1 := by
  refine snoc_ind rest (by show [head].length = _; simp) ?_
  intro l t ih
  rw [putI_snoc]
  show (addI (mulI I (putI I B head l).1 I.length) 0 _).length = _
  rw [addI_len, mulI_len, ih, hI, List.length_append, List.length_singleton, Nat.mul_add]
  omega
theorem putI_val {I : List Int} {B head : Int} (hI : I ≠ []) (h : 0 < B) (x : Rat) (rest : List Int) : iv (putI I B head rest).1 x / ((putI I B head rest).2 : Rat) = iv (rest.reverse ++ [head]) (iv I x / (B : Rat)) := by
  refine snoc_ind rest ?_ ?_
  · show ((head : Rat) + x * 0) / ((1 : Int) : Rat) = (head : Rat) + (iv I x / (B : Rat)) * 0
    have : ((1 : Int) : Rat) = 1 := rfl
    rw [this]
    grind
  · intro l t ih
    obtain ⟨n, hn⟩ : ∃ n, I.length = n + 1 := ⟨I.length - 1, by have := List.length_pos_iff.mpr hI; omega⟩
    have l1 := putI_len hn B head l
    rw [putI_snoc, List.reverse_append]
    show iv (addI (mulI I (putI I B head l).1 I.length) 0 (t * ((putI I B head l).2 * B))) x / (((putI I B head l).2 * B : Int) : Rat) = (t : Rat) + (iv I x / (B : Rat)) * iv (l.reverse ++ [head]) (iv I x / (B : Rat))
    rw [← ih, iv_addI x _ _ _ (by rw [mulI_len, l1, hn]; omega), iv_mulI x I _ (by intro z; rw [z] at l1; simp at l1) _ (Nat.le_refl _), List.take_length]
    have h1 := rat_ne (putI_pos (I := I) (head := head) h l)
    have h2 := rat_ne h
    simp only [Rat.intCast_mul]
    grind
theorem putI_bd {I : List Int} {B head : Int} {m c : Nat} (hI : nrm I ≤ 2 ^ m) (hB : B.natAbs ≤ 2 ^ m) (hh : head.natAbs ≤ 2 ^ c) (rest : List Int) (hr : ∀ t ∈ rest, t.natAbs ≤ 2 ^ c) :
    nrm (putI I B head rest).1 ≤ 2 ^ (c + (m + 1) * rest.length) ∧ (putI I B head rest).2.natAbs ≤ 2 ^ (m * rest.length) := by
  revert hr
  refine snoc_ind rest ?_ ?_
  · intro _
    refine ⟨?_, Nat.le_refl 1⟩
    show nrm [head] ≤ 2 ^ (c + 0)
    have : nrm [head] = head.natAbs := by unfold nrm; simp
    rw [this]
    exact hh
  · intro l t ih hr
    obtain ⟨h1, h2⟩ := ih fun z hz => hr z (List.mem_append_left _ hz)
    have h3 := hr t (List.mem_append_right _ List.mem_cons_self)
    rw [putI_snoc, List.length_append, List.length_singleton]
    have s2 : ((putI I B head l).2 * B).natAbs ≤ 2 ^ (m * (l.length + 1)) := by
      rw [Int.natAbs_mul, Nat.mul_add, Nat.mul_one, Nat.pow_add]
      exact Nat.mul_le_mul h2 hB
    refine ⟨?_, s2⟩
    show nrm (addI (mulI I (putI I B head l).1 I.length) 0 (t * ((putI I B head l).2 * B))) ≤ _
    have a1 := nrm_addI (t * ((putI I B head l).2 * B)) (mulI I (putI I B head l).1 I.length) 0
    have a2 := nrm_mulI I (putI I B head l).1 I.length (Nat.le_refl _)
    rw [List.take_length] at a2
    have a3 := Nat.mul_le_mul hI h1
    rw [← Nat.pow_add] at a3
    rw [Int.natAbs_mul] at a1
    have a4 := Nat.mul_le_mul h3 s2
    rw [← Nat.pow_add] at a4
    have b1 : 2 ^ (m + (c + (m + 1) * l.length)) ≤ 2 ^ (c + (m + 1) * l.length + m) := Nat.pow_le_pow_right (by decide) (by omega)
    have b2 : 2 ^ (c + m * (l.length + 1)) ≤ 2 ^ (c + (m + 1) * l.length + m) := Nat.pow_le_pow_right (by decide) (by rw [Nat.mul_add, Nat.add_mul]; omega)
    have b3 : c + (m + 1) * (l.length + 1) = c + (m + 1) * l.length + m + 1 := by rw [Nat.mul_add]; omega
    rw [b3, Nat.pow_succ]
    omega
theorem putI_top {I : List Int} {n : Nat} (hI : I.length = n + 2) (B head : Int) (rest : List Int) : (putI I B head rest).1.getD ((n + 1) * rest.length) 0 = head * (I.getD (n + 1) 0) ^ rest.length := by
  refine snoc_ind rest ?_ ?_
  · rw [List.length_nil, Nat.mul_zero, Int.pow_zero, Int.mul_one]
    rfl
  · intro l t ih
    have l1 := putI_len (n := n + 1) hI B head l
    rw [putI_snoc, List.length_append, List.length_singleton]
    show (addI (mulI I (putI I B head l).1 I.length) 0 _).getD _ 0 = _
    have e : (n + 1) * (l.length + 1) = (n + 1) + (n + 1) * l.length := by rw [Nat.mul_add]; omega
    rw [e, getD_addI _ _ _ _ (by omega), top_mulI (a := n + 1) (b := (n + 1) * l.length) hI l1, ih, Int.pow_succ]
    rw [Int.mul_comm (I.getD (n + 1) 0), Int.mul_assoc]
/-! ### numbers over one number -/
def ov (D : Int) (ns : List Int) : List (Int × Int) := ns.map fun n => fr n D
theorem ov_len (D : Int) (ns : List Int) : (ov D ns).length = ns.length := List.length_map _
theorem ov_low {D : Int} (h : 0 < D) (ns : List Int) : ∀ q ∈ ov D ns, Low q := by
  intro q hq
  obtain ⟨n, _, rfl⟩ := List.mem_map.mp hq
  exact fr_low h
theorem ov_val {D : Int} (h : 0 < D) (ns : List Int) (x : Rat) : pval ((ov D ns).map val) x = iv ns x / (D : Rat) := by
  have e : (ov D ns).map val = (ns.map fun z : Int => (z : Rat)).map fun c => c * (1 / (D : Rat)) := by
    unfold ov
    rw [List.map_map, List.map_map]
    refine List.map_congr_left fun n _ => ?_
    show val (fr n D) = (n : Rat) * (1 / (D : Rat))
    rw [fr_val h]
    grind
  rw [e, pval_scale]
  show iv ns x * (1 / (D : Rat)) = _
  grind
theorem lcm_rat {s : List (Int × Int)} (hs : ∀ q ∈ s, 0 < q.2) : ((lcmL s : Int) : Rat) ≠ 0 := rat_ne (by have := lcmL_pos s hs; omega)
theorem ov_tops {s : List (Int × Int)} (h : ∀ q ∈ s, Low q) : ov (lcmL s : Int) (tops s) = s := by
  have hp : ∀ q ∈ s, 0 < q.2 := fun q hq => (h q hq).1
  have lp : (0 : Int) < (lcmL s : Int) := by have := lcmL_pos s hp; omega
  unfold ov tops
  rw [List.map_map]
  conv => rhs; rw [← List.map_id s]
  refine List.map_congr_left fun q hq => ?_
  refine low_eq (fr_low lp) (h q hq) ?_
  show val (fr (q.1 * ((lcmL s : Int) / q.2)) (lcmL s : Int)) = val q
  rw [fr_val lp]
  exact top_val hp hq
theorem tops_val {s : List (Int × Int)} (hs : ∀ q ∈ s, 0 < q.2) (x : Rat) : iv (tops s) x / ((lcmL s : Int) : Rat) = pval (s.map val) x := by
  have r1 := lcm_rat hs
  have e2 : (tops s).map (fun z : Int => (z : Rat)) = (s.map val).map fun c => c * ((lcmL s : Int) : Rat) := by
    unfold tops
    rw [List.map_map, List.map_map]
    refine List.map_congr_left fun q hq => ?_
    have := top_val hs hq
    show ((q.1 * ((lcmL s : Int) / q.2) : Int) : Rat) = val q * ((lcmL s : Int) : Rat)
    rw [← this]
    grind
  unfold iv
  rw [e2, pval_scale]
  grind
theorem lcmL_dvd_of {D : Nat} (s : List (Int × Int)) (h : ∀ q ∈ s, q.2.natAbs ∣ D) : lcmL s ∣ D := by
  revert h
  refine snoc_ind s ?_ ?_
  · intro _
    exact Nat.one_dvd D
  · intro l q ih h
    rw [lcmL_snoc]
    exact Nat.lcm_dvd (ih fun r hr => h r (List.mem_append_left _ hr)) (h q (List.mem_append_right _ List.mem_cons_self))
theorem fr_bot_dvd {n D : Int} (h : 0 < D) : (fr n D).2.natAbs ∣ D.natAbs := by
  refine Int.natAbs_dvd_natAbs.mpr ⟨gc n D, ?_⟩
  show D = D / gc n D * gc n D
  exact (Int.ediv_mul_cancel (gc_dr n D)).symm
theorem ov_lcm {D : Int} (h : 0 < D) (ns : List Int) : lcmL (ov D ns) ∣ D.natAbs := by
  refine lcmL_dvd_of _ fun q hq => ?_
  obtain ⟨n, _, rfl⟩ := List.mem_map.mp hq
  exact fr_bot_dvd h
/-- each top of lowest terms is at most what it was made of -/
theorem top_le {D : Int} (h : 0 < D) {L : Nat} (hL : 0 < L) (hd : L ∣ D.natAbs) (n : Int) (hb : (fr n D).2.natAbs ∣ L) : ((fr n D).1 * ((L : Int) / (fr n D).2)).natAbs ≤ n.natAbs := by
  obtain ⟨c, hc⟩ := hd
  obtain ⟨e, he⟩ := hb
  have g := gc_pos (a := n) h
  have p := fr_pos (a := n) h
  have e1 : (fr n D).1 * gc n D = n := Int.ediv_mul_cancel (gc_dl n D)
  have e2 : (fr n D).2 * gc n D = D := Int.ediv_mul_cancel (gc_dr n D)
  have e3 : (L : Int) / (fr n D).2 = (e : Int) := by
    have : (L : Int) = (fr n D).2 * (e : Int) := by
      rw [he]
      rw [Int.natCast_mul]
      congr 1
      omega
    rw [this]
    exact Int.mul_ediv_cancel_left _ (by omega)
  rw [e3]
  have e4 : (e : Nat) * c = (gc n D).natAbs := by
    have h1 : D.natAbs = (fr n D).2.natAbs * (gc n D).natAbs := by rw [← Int.natAbs_mul, e2]
    have h2 : (fr n D).2.natAbs * (e * c) = (fr n D).2.natAbs * (gc n D).natAbs := by rw [← h1, hc, he, Nat.mul_assoc]
    exact Nat.eq_of_mul_eq_mul_left (by omega) h2
  have c0 : 0 < c := by
    rcases Nat.eq_zero_or_pos c with z | z
    · rw [z, Nat.mul_zero] at e4
      omega
    · exact z
  have : e ≤ (gc n D).natAbs := by rw [← e4]; exact Nat.le_mul_of_pos_right e c0
  have h5 : n.natAbs = (fr n D).1.natAbs * (gc n D).natAbs := by rw [← Int.natAbs_mul, e1]
  rw [Int.natAbs_mul, h5, Int.natAbs_natCast]
  exact Nat.mul_le_mul_left _ this
theorem sum_le : ∀ {l : List Int} {f : Int → Nat}, (∀ n ∈ l, f n ≤ n.natAbs) → (l.map f).sum ≤ nrm l
  | [], _, _ => Nat.le_refl 0
  | a :: l, f, h => by
    rw [nrm_cons, List.map_cons, List.sum_cons]
    have h1 := h a List.mem_cons_self
    have h2 := sum_le (l := l) (f := f) fun n hn => h n (List.mem_cons_of_mem _ hn)
    omega
theorem ov_nrm {D : Int} (h : 0 < D) (ns : List Int) : nrm (tops (ov D ns)) ≤ nrm ns := by
  have hp : ∀ q ∈ ov D ns, 0 < q.2 := fun q hq => (ov_low h ns q hq).1
  unfold nrm tops
  rw [List.map_map]
  generalize eL : lcmL (ov D ns) = L
  have hL : 0 < L := eL ▸ lcmL_pos _ hp
  have hd : L ∣ D.natAbs := eL ▸ ov_lcm h ns
  have hm : ∀ n ∈ ns, (fr n D).2.natAbs ∣ L := fun n hn => eL ▸ lcmL_dvd (ov D ns) (fr n D) (List.mem_map.mpr ⟨n, hn, rfl⟩)
  unfold ov
  rw [List.map_map]
  exact sum_le fun n hn => top_le h hL hd n (hm n hn)
end My

set_option maxHeartbeats 1000000
namespace My
theorem putI_snd (I : List Int) (B head : Int) (rest : List Int) : (putI I B head rest).2 = B ^ rest.length := by
  refine snoc_ind rest (by show (1 : Int) = B ^ 0; rw [Int.pow_zero]) ?_
  intro l t ih
  rw [putI_snoc, List.length_append, List.length_singleton, Int.pow_succ]
  show (putI I B head l).2 * B = _
  rw [ih]
def headI (t : List (Int × Int)) : Int := (tops t).getLast?.getD 0
def restI (t : List (Int × Int)) : List Int := (tops t).dropLast.reverse
theorem tops_len (t : List (Int × Int)) : (tops t).length = t.length := List.length_map _
theorem restI_len (t : List (Int × Int)) : (restI t).length = t.length - 1 := by unfold restI; rw [List.length_reverse, List.length_dropLast, tops_len]
theorem headI_last {t : List (Int × Int)} (h : t ≠ []) : (tops t).dropLast ++ [headI t] = tops t := by
  have tn := tops_ne h
  unfold headI
  rw [List.getLast?_eq_some_getLast tn]
  exact List.dropLast_concat_getLast tn
def compQ (s t : List (Int × Int)) : List (Int × Int) := ov ((lcmL t : Int) * (putI (tops s) (lcmL s : Int) (headI t) (restI t)).2) (putI (tops s) (lcmL s : Int) (headI t) (restI t)).1
structure Stp (s : List (Int × Int)) : Prop where
  low : ∀ q ∈ s, Low q
  two : 2 ≤ s.length
  tr : Tr s
theorem Stp.pos {s : List (Int × Int)} (h : Stp s) : ∀ q ∈ s, 0 < q.2 := fun q hq => (h.low q hq).1
theorem Stp.ne {s : List (Int × Int)} (h : Stp s) : s ≠ [] := by
  intro z
  have := h.two
  rw [z] at this
  simp at this
theorem lcm_pos' {s : List (Int × Int)} (h : ∀ q ∈ s, 0 < q.2) : (0 : Int) < (lcmL s : Int) := by have := lcmL_pos s h; omega
theorem compD_pos {s t : List (Int × Int)} (hs : ∀ q ∈ s, 0 < q.2) (ht : ∀ q ∈ t, 0 < q.2) (k : List Int) : (0 : Int) < (lcmL t : Int) * (putI (tops s) (lcmL s : Int) (headI t) k).2 :=
  Int.mul_pos (lcm_pos' ht) (putI_pos (lcm_pos' hs) _)
theorem compQ_low {s t : List (Int × Int)} (hs : ∀ q ∈ s, 0 < q.2) (ht : ∀ q ∈ t, 0 < q.2) : ∀ q ∈ compQ s t, Low q := ov_low (compD_pos hs ht _) _
theorem compQ_val {s t : List (Int × Int)} (hs : ∀ q ∈ s, 0 < q.2) (hn : s ≠ []) (ht : ∀ q ∈ t, 0 < q.2) (tn : t ≠ []) (x : Rat) : pval ((compQ s t).map val) x = pval (t.map val) (pval (s.map val) x) := by
  unfold compQ
  rw [ov_val (compD_pos hs ht _)]
  have h1 := putI_val (head := headI t) (tops_ne hn) (lcm_pos' hs) x (restI t)
  rw [show (restI t).reverse = (tops t).dropLast by unfold restI; rw [List.reverse_reverse], headI_last tn, tops_val hs] at h1
  rw [← tops_val ht, ← h1]
  have r1 := lcm_rat ht
  have r2 := rat_ne (putI_pos (I := tops s) (head := headI t) (lcm_pos' hs) (restI t))
  rw [Rat.intCast_mul]
  grind
theorem compQ_len {s t : List (Int × Int)} {n k : Nat} (h1 : s.length = n + 1) (h2 : t.length = k + 1) : (compQ s t).length = n * k + 1 := by
  unfold compQ
  rw [ov_len, putI_len (n := n) (by rw [tops_len, h1]), restI_len, h2]
  rfl
theorem getD_map {s : List (Int × Int)} {f : Int × Int → Int} {k : Nat} (h : k < s.length) : (s.map f).getD k 0 = f s[k] := by
  rw [List.getD_eq_getElem?_getD, List.getElem?_map, List.getElem?_eq_getElem h]
  rfl
theorem top_at {s : List (Int × Int)} {k : Nat} (h : k < s.length) : (tops s).getD k 0 = s[k].1 * ((lcmL s : Int) / s[k].2) := getD_map h
theorem top_val_at {s : List (Int × Int)} (hs : ∀ q ∈ s, 0 < q.2) {k : Nat} (h : k < s.length) : (((tops s).getD k 0 : Int) : Rat) / ((lcmL s : Int) : Rat) = val s[k] := by
  rw [top_at h]
  exact top_val hs (List.getElem_mem h)
theorem headI_eq {t : List (Int × Int)} {k : Nat} (h : t.length = k + 1) : headI t = (tops t).getD k 0 := by
  unfold headI
  rw [List.getLast?_eq_getElem?, tops_len, h, List.getD_eq_getElem?_getD]
  rfl
/-- the head of a whole -/
theorem compQ_head {s t : List (Int × Int)} {n k : Nat} (hs : ∀ q ∈ s, 0 < q.2) (ht : ∀ q ∈ t, 0 < q.2) (h1 : s.length = n + 2) (h2 : t.length = k + 1) :
    ∃ q, (compQ s t).getLast? = some q ∧ Low q ∧ val q = val t[k] * val s[n + 1] ^ k := by
  have hl := compQ_len (n := n + 1) h1 h2
  have e1 := putI_top (I := tops s) (n := n) (by rw [tops_len, h1]) (lcmL s : Int) (headI t) (restI t)
  have l1 := putI_len (I := tops s) (n := n + 1) (by rw [tops_len, h1]) (lcmL s : Int) (headI t) (restI t)
  have hr : (restI t).length = k := by rw [restI_len, h2]; rfl
  rw [hr] at e1 l1
  have hlt : (n + 1) * k < (putI (tops s) (lcmL s : Int) (headI t) (restI t)).1.length := by omega
  have e2 : (compQ s t).getLast? = some (fr ((putI (tops s) (lcmL s : Int) (headI t) (restI t)).1.getD ((n + 1) * k) 0) ((lcmL t : Int) * (putI (tops s) (lcmL s : Int) (headI t) (restI t)).2)) := by
    rw [List.getLast?_eq_getElem?, hl]
    unfold compQ ov
    rw [List.getElem?_map, Nat.add_sub_cancel, List.getD_eq_getElem?_getD, List.getElem?_eq_getElem hlt]
    rfl
  refine ⟨_, e2, fr_low (compD_pos hs ht _), ?_⟩
  rw [fr_val (compD_pos hs ht _), e1, headI_eq h2, putI_snd, hr, ← top_val_at ht (by omega), ← top_val_at hs (by omega)]
  have r1 := lcm_rat hs
  have r2 := lcm_rat ht
  simp only [Rat.intCast_mul, Rat.intCast_pow]
  generalize (((tops t).getD k 0 : Int) : Rat) = a at *
  generalize (((tops s).getD (n + 1) 0 : Int) : Rat) = b at *
  generalize ((lcmL t : Int) : Rat) = c at *
  generalize ((lcmL s : Int) : Rat) = d at *
  have : ∀ k : Nat, (b / d) ^ k = b ^ k / d ^ k ∧ d ^ k ≠ 0 := by
    intro k
    induction k with
    | zero => simp; grind
    | succ k ih =>
      obtain ⟨i1, i2⟩ := ih
      refine ⟨?_, ?_⟩
      · rw [Rat.pow_succ, Rat.pow_succ, Rat.pow_succ, i1]
        grind
      · rw [Rat.pow_succ]
        intro z
        rcases Rat.mul_eq_zero.mp z with y | y
        · exact i2 y
        · exact r1 y
  obtain ⟨i1, i2⟩ := this k
  rw [i1]
  grind
theorem val_ne {q : Int × Int} (h : 0 < q.2) (z : q.1 ≠ 0) : val q ≠ 0 := fun e => z (val_zero h e)
theorem rpow_ne {a : Rat} (h : a ≠ 0) : ∀ k : Nat, a ^ k ≠ 0
  | 0 => by rw [Rat.pow_zero]; decide
  | k + 1 => by
    rw [Rat.pow_succ]
    intro z
    rcases Rat.mul_eq_zero.mp z with y | y
    · exact rpow_ne h k y
    · exact h y
theorem last_get {s : List (Int × Int)} {n : Nat} (h : s.length = n + 1) : s.getLast? = some (s[n]) := by
  rw [List.getLast?_eq_getElem?, show s.length - 1 = n by omega, List.getElem?_eq_getElem (by omega)]
theorem compQ_tr {s t : List (Int × Int)} {n k : Nat} (hs : ∀ q ∈ s, 0 < q.2) (ht : ∀ q ∈ t, 0 < q.2) (h1 : s.length = n + 2) (h2 : t.length = k + 1) (ts : Tr s) (tt : Tr t) : Tr (compQ s t) := by
  obtain ⟨q, e1, e2, e3⟩ := compQ_head hs ht h1 h2
  intro r hr
  rw [e1] at hr
  cases hr
  intro z
  have : val q = 0 := by unfold val; rw [z]; simp; grind
  rw [this] at e3
  have a1 := val_ne (ht _ (List.getElem_mem (show k < t.length by omega))) (tt _ (last_get h2))
  have a2 := rpow_ne (val_ne (hs _ (List.getElem_mem (show n + 1 < s.length by omega))) (ts _ (last_get h1))) k
  rcases Rat.mul_eq_zero.mp e3.symm with y | y
  · exact a1 y
  · exact a2 y
theorem compQ_stp {s t : List (Int × Int)} (hs : Stp s) (ht : Stp t) : Stp (compQ s t) := by
  have h2 := hs.two
  have h3 := ht.two
  refine ⟨compQ_low hs.pos ht.pos, ?_, compQ_tr (n := s.length - 2) (k := t.length - 1) hs.pos ht.pos (by omega) (by omega) hs.tr ht.tr⟩
  rw [compQ_len (n := s.length - 1) (k := t.length - 1) (by omega) (by omega)]
  have : 1 * 1 ≤ (s.length - 1) * (t.length - 1) := Nat.mul_le_mul (by omega) (by omega)
  omega
/-! ### rows -/
def compRow : List (List (Int × Int)) → List (Int × Int)
  | [] => []
  | r :: rs => rs.foldl compQ r
def pvals (rs : List (List (Int × Int))) (x : Rat) : Rat := rs.foldl (fun y s => pval (s.map val) y) x
def degs (rs : List (List (Int × Int))) : Nat := rs.foldl (fun n s => n * (s.length - 1)) 1
theorem foldl_comp : ∀ (rs : List (List (Int × Int))) {r : List (Int × Int)}, Stp r → (∀ s ∈ rs, Stp s) → Stp (rs.foldl compQ r) ∧ (∀ x, pval ((rs.foldl compQ r).map val) x = pvals rs (pval (r.map val) x)) ∧
    (rs.foldl compQ r).length = rs.foldl (fun n s => n * (s.length - 1)) (r.length - 1) + 1
  | [], r, h, _ => ⟨h, fun _ => rfl, by have := h.two; show r.length = r.length - 1 + 1; omega⟩
  | s :: rs, r, h, hs => by
    have h1 := hs s List.mem_cons_self
    have c := compQ_stp h h1
    obtain ⟨i1, i2, i3⟩ := foldl_comp rs c fun z hz => hs z (List.mem_cons_of_mem _ hz)
    refine ⟨i1, fun x => ?_, ?_⟩
    · show pval ((rs.foldl compQ (compQ r s)).map val) x = pvals rs (pval (s.map val) (pval (r.map val) x))
      rw [i2, compQ_val h.pos h.ne h1.pos h1.ne]
    · show (rs.foldl compQ (compQ r s)).length = rs.foldl (fun n s => n * (s.length - 1)) ((r.length - 1) * (s.length - 1)) + 1
      have e1 := h.two
      have e2 := h1.two
      rw [i3, compQ_len (n := r.length - 1) (k := s.length - 1) (by omega) (by omega), Nat.add_sub_cancel]
theorem compRow_ok {rs : List (List (Int × Int))} (h : rs ≠ []) (hs : ∀ s ∈ rs, Stp s) : Stp (compRow rs) ∧ (∀ x, pval ((compRow rs).map val) x = pvals rs x) ∧ (compRow rs).length = degs rs + 1 := by
  cases rs with
  | nil => exact absurd rfl h
  | cons r rs =>
    obtain ⟨i1, i2, i3⟩ := foldl_comp rs (hs r List.mem_cons_self) fun z hz => hs z (List.mem_cons_of_mem _ hz)
    refine ⟨i1, i2, ?_⟩
    show (rs.foldl compQ r).length = rs.foldl (fun n s => n * (s.length - 1)) (1 * (r.length - 1)) + 1
    rw [i3, Nat.one_mul]
/-- cut anywhere -/
theorem compRow_cut {a b : List (List (Int × Int))} (ha : a ≠ []) (hb : b ≠ []) (hs : ∀ s ∈ a, Stp s) (ht : ∀ s ∈ b, Stp s) : compQ (compRow a) (compRow b) = compRow (a ++ b) := by
  obtain ⟨a1, a2, _⟩ := compRow_ok ha hs
  obtain ⟨b1, b2, _⟩ := compRow_ok hb ht
  obtain ⟨c1, c2, _⟩ := compRow_ok (rs := a ++ b) (by simp [ha]) (fun s h => (List.mem_append.mp h).elim (hs s) (ht s))
  have d := compQ_stp a1 b1
  refine canon d.low c1.low d.tr c1.tr fun x => ?_
  rw [compQ_val a1.pos a1.ne b1.pos b1.ne, a2, b2, c2]
  unfold pvals
  rw [List.foldl_append]
/-! ### the law's own value -/
def lawV (s : List (Int × Int)) (x : Int × Int) : Int × Int := s.reverse.foldl (fun f q => qadd (qmul f x) q) (0, 1)
theorem val_01 : val (0, 1) = 0 := by unfold val; simp; grind
theorem lawV_go {x : Int × Int} (hx : 0 < x.2) (l : List (Int × Int)) (hl : ∀ q ∈ l, 0 < q.2) : Low (l.foldl (fun f q => qadd (qmul f x) q) (0, 1)) ∧ val (l.foldl (fun f q => qadd (qmul f x) q) (0, 1)) = pval (l.reverse.map val) (val x) := by
  revert hl
  refine snoc_ind l ?_ ?_
  · intro _
    exact ⟨low_0, val_01⟩
  · intro l q ih hl
    obtain ⟨h1, h2⟩ := ih fun r hr => hl r (List.mem_append_left _ hr)
    have hq := hl q (List.mem_append_right _ List.mem_cons_self)
    rw [List.foldl_append]
    have m := qmul_low h1.1 hx
    refine ⟨qadd_low m.1 hq, ?_⟩
    show val (qadd (qmul (l.foldl (fun f q => qadd (qmul f x) q) (0, 1)) x) q) = _
    rw [qadd_val m.1 hq, qmul_val h1.1 hx, h2, List.reverse_append]
    show _ = val q + val x * pval (l.reverse.map val) (val x)
    grind
theorem lawV_ok {s : List (Int × Int)} {x : Int × Int} (hs : ∀ q ∈ s, 0 < q.2) (hx : 0 < x.2) : Low (lawV s x) ∧ val (lawV s x) = pval (s.map val) (val x) := by
  have := lawV_go hx s.reverse fun q hq => hs q (List.mem_reverse.mp hq)
  rw [List.reverse_reverse] at this
  exact this
theorem valOf_lawV {s : List (Int × Int)} {x : Int × Int} (hs : ∀ q ∈ s, 0 < q.2) (hn : s ≠ []) (hx : 0 < x.2) : valOf s x = lawV s x := by
  obtain ⟨h1, h2⟩ := lawV_ok hs hx
  exact low_eq (valOf_low hs hx) h1 (by rw [valOf_val hs hn hx, h2])
/-- the numbers along a row -/
def alongV (rs : List (List (Int × Int))) (x : Int × Int) : Int × Int := rs.foldl (fun y s => lawV s y) x
theorem alongV_ok : ∀ (rs : List (List (Int × Int))) {x : Int × Int}, (∀ s ∈ rs, ∀ q ∈ s, 0 < q.2) → Low x → Low (alongV rs x) ∧ val (alongV rs x) = pvals rs (val x)
  | [], x, _, h => ⟨h, rfl⟩
  | s :: rs, x, hs, h => by
    obtain ⟨h1, h2⟩ := lawV_ok (hs s List.mem_cons_self) h.1
    obtain ⟨h3, h4⟩ := alongV_ok rs (fun z hz => hs z (List.mem_cons_of_mem _ hz)) h1
    refine ⟨h3, ?_⟩
    show val (alongV rs (lawV s x)) = pvals rs (pval (s.map val) (val x))
    rw [h4, h2]
theorem whole_value {rs : List (List (Int × Int))} {x : Int × Int} (h : rs ≠ []) (hs : ∀ s ∈ rs, Stp s) (hx : Low x) : valOf (compRow rs) x = alongV rs x := by
  obtain ⟨a1, a2, _⟩ := compRow_ok h hs
  obtain ⟨b1, b2⟩ := alongV_ok rs (fun s z => (hs s z).pos) hx
  refine low_eq (valOf_low a1.pos hx.1) b1 ?_
  rw [valOf_val a1.pos a1.ne hx.1, a2, b2]
/-! ### bits -/
structure Bits (m d : Nat) (s : List (Int × Int)) : Prop where
  top : nrm (tops s) ≤ 2 ^ m
  bot : lcmL s ≤ 2 ^ d
theorem bits_num {m d : Nat} {s : List (Int × Int)} (hs : ∀ q ∈ s, 0 < q.2) (h : Bits m d s) {q : Int × Int} (hq : q ∈ s) : q.1.natAbs ≤ 2 ^ m ∧ q.2.natAbs ≤ 2 ^ d := by
  have h0 := hs q hq
  have hL := lcmL_pos s hs
  have hd := lcmL_dvd s q hq
  refine ⟨?_, Nat.le_trans (Nat.le_of_dvd hL hd) h.bot⟩
  have h1 := nrm_mem (l := tops s) (List.mem_map.mpr ⟨q, hq, rfl⟩)
  refine Nat.le_trans ?_ (Nat.le_trans h1 h.top)
  rw [Int.natAbs_mul]
  refine Nat.le_mul_of_pos_right _ ?_
  obtain ⟨c, e⟩ := hd
  have : (lcmL s : Int) / q.2 = (c : Int) := by
    have e2 : (lcmL s : Int) = q.2 * (c : Int) := by
      rw [e, Int.natCast_mul]
      congr 1
      omega
    rw [e2]
    exact Int.mul_ediv_cancel_left _ (by omega)
  rw [this, Int.natAbs_natCast]
  rcases Nat.eq_zero_or_pos c with z | z
  · rw [z, Nat.mul_zero] at e
    omega
  · exact z
theorem compQ_bits {s t : List (Int × Int)} {m d c e : Nat} (hs : ∀ q ∈ s, 0 < q.2) (ht : ∀ q ∈ t, 0 < q.2) (tn : t ≠ []) (h1 : Bits m d s) (hd : d ≤ m) (h2 : Bits c e t) :
    Bits (c + (m + 1) * (t.length - 1)) (e + d * (t.length - 1)) (compQ s t) := by
  have hh : ∀ z ∈ tops t, z.natAbs ≤ 2 ^ c := fun z hz => Nat.le_trans (nrm_mem hz) h2.top
  have hm := headI_last tn
  have b := putI_bd (I := tops s) (B := (lcmL s : Int)) (head := headI t) (m := m) (c := c) h1.top (by rw [Int.natAbs_natCast]; exact Nat.le_trans h1.bot (Nat.pow_le_pow_right (by decide) hd))
    (hh _ (by rw [← hm]; exact List.mem_append_right _ List.mem_cons_self)) (restI t) (fun z hz => hh z ((List.dropLast_sublist _).subset (List.mem_reverse.mp hz)))
  rw [restI_len] at b
  refine ⟨Nat.le_trans (ov_nrm (compD_pos hs ht _) _) b.1, ?_⟩
  refine Nat.le_trans (Nat.le_of_dvd ?_ (ov_lcm (compD_pos hs ht _) _)) ?_
  · have := compD_pos hs ht (restI t)
    omega
  · rw [Int.natAbs_mul, putI_snd, restI_len, Int.natAbs_natCast, Int.natAbs_pow, Int.natAbs_natCast, Nat.pow_add, Nat.pow_mul]
    exact Nat.mul_le_mul h2.bot (Nat.pow_le_pow_left h1.bot _)
end My

set_option maxHeartbeats 1000000
namespace My
/-! ### the law's own sums and products of steps -/
/-- how many numbers are left of the first j -/
def keptOf (s : List (Int × Int)) : Nat → Nat
  | 0 => 0
  | 1 => 1
  | j + 2 => if s[j + 1]? = some (0, 1) then keptOf s (j + 1) else j + 2
def trimQ (s : List (Int × Int)) : List (Int × Int) := s.take (keptOf s s.length)
def sumQ (s t : List (Int × Int)) : List (Int × Int) := (List.range (max s.length t.length)).map fun i => qadd (s.getD i (0, 1)) (t.getD i (0, 1))
def addAt (z : List (Int × Int)) (k : Nat) (q : Int × Int) : List (Int × Int) := z.set k (qadd (z.getD k (0, 1)) q)
def rowQ (i : Nat) (p : Int × Int) (t : List (Int × Int)) (z : List (Int × Int)) (m : Nat) : List (Int × Int) := (List.range m).foldl (fun z j => addAt z (i + j) (qmul p (t.getD j (0, 1)))) z
def prodQ (s t : List (Int × Int)) (m : Nat) : List (Int × Int) := (List.range m).foldl (fun z i => rowQ i (s.getD i (0, 1)) t z t.length) (List.replicate (s.length + t.length - 1) (0, 1))
theorem rowQ_succ (i : Nat) (p : Int × Int) (t z : List (Int × Int)) (m : Nat) : rowQ i p t z (m + 1) = addAt (rowQ i p t z m) (i + m) (qmul p (t.getD m (0, 1))) := by
  unfold rowQ
  rw [List.range_succ, List.foldl_append]
  rfl
theorem prodQ_succ (s t : List (Int × Int)) (m : Nat) : prodQ s t (m + 1) = rowQ m (s.getD m (0, 1)) t (prodQ s t m) t.length := by
  unfold prodQ
  rw [List.range_succ, List.foldl_append]
  rfl
theorem addAt_len (z : List (Int × Int)) (k : Nat) (q : Int × Int) : (addAt z k q).length = z.length := List.length_set
theorem rowQ_len (i : Nat) (p : Int × Int) (t z : List (Int × Int)) : ∀ m, (rowQ i p t z m).length = z.length
  | 0 => rfl
  | m + 1 => by rw [rowQ_succ, addAt_len, rowQ_len i p t z m]
theorem prodQ_len (s t : List (Int × Int)) : ∀ m, (prodQ s t m).length = s.length + t.length - 1
  | 0 => by unfold prodQ; simp
  | m + 1 => by rw [prodQ_succ, rowQ_len, prodQ_len s t m]
theorem fr_zero {D : Int} (h : 0 < D) : fr 0 D = (0, 1) := low_eq (fr_low h) low_0 (by rw [fr_val h, val_01]; show (0 : Rat) / D = 0; grind)
theorem ov_getD {D : Int} (h : 0 < D) (ns : List Int) (k : Nat) : (ov D ns).getD k (0, 1) = fr (ns.getD k 0) D := by
  unfold ov
  rw [List.getD_eq_getElem?_getD, List.getElem?_map, List.getD_eq_getElem?_getD]
  cases ns[k]? with
  | none => exact (fr_zero h).symm
  | some n => rfl
theorem fr_mul_add {z a b D E : Int} (hD : 0 < D) (hE : 0 < E) : qadd (fr z (D * E)) (qmul (fr a D) (fr b E)) = fr (z + a * b) (D * E) := by
  have hDE := Int.mul_pos hD hE
  have h1 := fr_pos (a := z) hDE
  have h2 := fr_pos (a := a) hD
  have h3 := fr_pos (a := b) hE
  have m := qmul_low h2 h3
  refine low_eq (qadd_low h1 m.1) (fr_low hDE) ?_
  rw [qadd_val h1 m.1, qmul_val h2 h3, fr_val hDE, fr_val hDE, fr_val hD, fr_val hE]
  have r1 := rat_ne hD
  have r2 := rat_ne hE
  simp only [Rat.intCast_add, Rat.intCast_mul]
  grind
theorem fr_add {a b D E : Int} (hD : 0 < D) (hE : 0 < E) : qadd (fr a (D * E)) (fr b D) = fr (a + b * E) (D * E) := by
  have hDE := Int.mul_pos hD hE
  have h1 := fr_pos (a := a) hDE
  have h2 := fr_pos (a := b) hD
  refine low_eq (qadd_low h1 h2) (fr_low hDE) ?_
  rw [qadd_val h1 h2, fr_val hDE, fr_val hDE, fr_val hD]
  have r1 := rat_ne hD
  have r2 := rat_ne hE
  simp only [Rat.intCast_add, Rat.intCast_mul]
  grind
theorem qadd_zero {q : Int × Int} (h : Low q) : qadd q (0, 1) = q := by
  refine low_eq (qadd_low h.1 (by decide)) h ?_
  rw [qadd_val h.1 (by decide), val_01]
  grind
theorem zero_qadd {q : Int × Int} (h : Low q) : qadd (0, 1) q = q := by
  refine low_eq (qadd_low (by decide) h.1) h ?_
  rw [qadd_val (by decide) h.1, val_01]
  grind
theorem ov_set (D : Int) (ns : List Int) (k : Nat) (v : Int) : (ov D ns).set k (fr v D) = ov D (ns.set k v) := by
  unfold ov
  rw [List.map_set]
theorem addAt_ov {a b D E : Int} (hD : 0 < D) (hE : 0 < E) (Z : List Int) (k : Nat) : addAt (ov (D * E) Z) k (qmul (fr a D) (fr b E)) = ov (D * E) (addI Z k (a * b)) := by
  unfold addAt addI
  rw [ov_getD (Int.mul_pos hD hE), fr_mul_add hD hE, ov_set]
theorem rowQ_ov {a D E : Int} (hD : 0 < D) (hE : 0 < E) (i : Nat) (T Z : List Int) : ∀ m, rowQ i (fr a D) (ov E T) (ov (D * E) Z) m = ov (D * E) (rowI i a T Z m)
  | 0 => rfl
  | m + 1 => by rw [rowQ_succ, rowQ_ov hD hE i T Z m, ov_getD hE, addAt_ov hD hE, rowI_succ]
theorem prodQ_ov {D E : Int} (hD : 0 < D) (hE : 0 < E) (S T : List Int) : ∀ m, prodQ (ov D S) (ov E T) m = ov (D * E) (mulI S T m)
  | 0 => by
    show List.replicate _ (0, 1) = ov (D * E) (List.replicate _ 0)
    rw [ov_len, ov_len]
    unfold ov
    rw [List.map_replicate, fr_zero (Int.mul_pos hD hE)]
  | m + 1 => by rw [prodQ_succ, prodQ_ov hD hE S T m, ov_getD hD, ov_len, rowQ_ov hD hE, mulI_succ]
theorem trimQ_id {s : List (Int × Int)} (h : ∀ q, s.getLast? = some q → q ≠ (0, 1)) : trimQ s = s := by
  unfold trimQ
  have : keptOf s s.length = s.length := by
    match e : s.length with
    | 0 => rfl
    | 1 => rfl
    | j + 2 =>
      show (if s[j + 1]? = some (0, 1) then _ else j + 2) = _
      rw [if_neg]
      intro z
      exact h (0, 1) (by rw [List.getLast?_eq_getElem?, e]; exact z) rfl
  rw [this, List.take_length]
theorem kept_nought (n : Nat) : ∀ j, 1 ≤ j → j ≤ n → keptOf (List.replicate n (0, 1)) j = 1
  | 1, _, _ => rfl
  | j + 2, _, h => by
    show (if (List.replicate n ((0 : Int), (1 : Int)))[j + 1]? = some (0, 1) then keptOf _ (j + 1) else j + 2) = 1
    rw [if_pos (by rw [List.getElem?_replicate, if_pos (by omega)])]
    exact kept_nought n (j + 1) (by omega) (by omega)
theorem trimQ_nought {n : Nat} (h : 1 ≤ n) : trimQ (List.replicate n (0, 1)) = [(0, 1)] := by
  unfold trimQ
  rw [List.length_replicate, kept_nought n n h (Nat.le_refl _), List.take_replicate, Nat.min_eq_left h]
  rfl
theorem sumQ_one {D E t : Int} (hD : 0 < D) (hE : 0 < E) {G : List Int} (hG : G ≠ []) : sumQ (ov (D * E) G) [fr t D] = ov (D * E) (addI G 0 (t * E)) := by
  have lG : 0 < G.length := List.length_pos_iff.mpr hG
  have hDE := Int.mul_pos hD hE
  refine List.ext_getElem? fun i => ?_
  unfold sumQ
  rw [List.getElem?_map, ov_len, List.length_singleton, Nat.max_eq_left (by omega)]
  by_cases hi : i < G.length
  · rw [List.getElem?_range hi]
    have e2 : (ov (D * E) (addI G 0 (t * E)))[i]? = some (fr ((addI G 0 (t * E)).getD i 0) (D * E)) := by
      unfold ov
      have : i < (addI G 0 (t * E)).length := by rw [addI_len]; exact hi
      rw [List.getElem?_map, List.getD_eq_getElem?_getD, List.getElem?_eq_getElem this]
      rfl
    rw [e2]
    show some (qadd ((ov (D * E) G).getD i (0, 1)) ([fr t D].getD i (0, 1))) = _
    rw [ov_getD hDE]
    cases i with
    | zero =>
      rw [getD_addI_same _ _ _ lG]
      show some (qadd _ (fr t D)) = _
      rw [fr_add hD hE]
    | succ i =>
      rw [getD_addI _ _ _ _ (by omega)]
      show some (qadd _ (0, 1)) = _
      rw [qadd_zero (fr_low hDE)]
  · rw [List.getElem?_eq_none (by rw [List.length_range]; omega), List.getElem?_eq_none (by rw [ov_len, addI_len]; omega)]
    rfl
/-- the law's own putting in behind k numbers below the head -/
def wpI (s t : List (Int × Int)) (k : Nat) : List Int × Int := putI (tops s) (lcmL s : Int) (headI t) ((restI t).take k)
def wpQ (s t : List (Int × Int)) (k : Nat) : List (Int × Int) := ov ((lcmL t : Int) * (wpI s t k).2) (wpI s t k).1
theorem wpQ_last (s t : List (Int × Int)) : wpQ s t (restI t).length = compQ s t := by
  unfold wpQ wpI compQ
  rw [List.take_length]
theorem mulI_comm {s t : List Int} (hs : s ≠ []) (ht : t ≠ []) : mulI s t s.length = mulI t s t.length := by
  refine iv_inj (by rw [mulI_len, mulI_len, Nat.add_comm]) fun x => ?_
  rw [iv_mulI x s t ht _ (Nat.le_refl _), iv_mulI x t s hs _ (Nat.le_refl _), List.take_length, List.take_length]
  grind
theorem tops_top {s : List (Int × Int)} (hs : ∀ q ∈ s, 0 < q.2) {k : Nat} (h : k < s.length) : fr ((tops s).getD k 0) (lcmL s : Int) = fr s[k].1 s[k].2 := by
  have hk := hs _ (List.getElem_mem h)
  refine low_eq (fr_low (lcm_pos' hs)) (fr_low hk) ?_
  rw [fr_val (lcm_pos' hs), top_val_at hs h, fr_val hk]
  rfl
theorem tops_nz {s : List (Int × Int)} (hs : ∀ q ∈ s, 0 < q.2) {k : Nat} (h : k < s.length) (hz : s[k].1 ≠ 0) : (tops s).getD k 0 ≠ 0 := by
  intro z
  have e := top_val_at hs h
  rw [z] at e
  have hk := hs _ (List.getElem_mem h)
  refine val_ne hk hz ?_
  rw [← e]
  show (0 : Rat) / _ = 0
  grind
theorem ipow_ne {a : Int} (h : a ≠ 0) : ∀ k : Nat, a ^ k ≠ 0
  | 0 => by rw [Int.pow_zero]; decide
  | k + 1 => by
    rw [Int.pow_succ]
    intro z
    rcases Int.mul_eq_zero.mp z with y | y
    · exact ipow_ne h k y
    · exact h y
theorem fr_ne0 {a b : Int} (h : 0 < b) (ha : a ≠ 0) : (fr a b).1 ≠ 0 := by
  intro z
  have e := Int.ediv_mul_cancel (gc_dl a b)
  have z' : a / gc a b = 0 := z
  rw [z', Int.zero_mul] at e
  exact ha e.symm
theorem ov_last {D : Int} (hD : 0 < D) {ns : List Int} {k : Nat} (h : ns.length = k + 1) (hz : ns.getD k 0 ≠ 0) : trimQ (ov D ns) = ov D ns := by
  refine trimQ_id fun q hq => ?_
  rw [List.getLast?_eq_getElem?, ov_len, h, Nat.add_sub_cancel] at hq
  have : (ov D ns).getD k (0, 1) = q := by rw [List.getD_eq_getElem?_getD, hq]; rfl
  rw [ov_getD hD] at this
  rw [← this]
  intro z
  exact fr_ne0 hD hz (by rw [z])
section
variable {s t : List (Int × Int)} (S : Stp s) (tl : ∀ q ∈ t, Low q) (tn : t ≠ []) (tt : Tr t)
include S tl tn tt
theorem headI_nz : headI t ≠ 0 := by
  have lt : 0 < t.length := List.length_pos_iff.mpr tn
  have e : t.length = (t.length - 1) + 1 := by omega
  rw [headI_eq e]
  exact tops_nz (fun q hq => (tl q hq).1) (by omega) (tt _ (last_get e))
theorem wpQ_zero : trimQ (sumQ (trimQ (prodQ [(0, 1)] s 1)) [t.getLast tn]) = wpQ s t 0 := by
  have hs := S.pos
  have lt : 0 < t.length := List.length_pos_iff.mpr tn
  have hB := lcm_pos' hs
  have e1 : ([(0, 1)] : List (Int × Int)) = ov 1 [0] := by
    show [(0, 1)] = [fr 0 1]
    rw [fr_zero (by decide)]
  have e2 : prodQ [(0, 1)] s 1 = List.replicate s.length (0, 1) := by
    conv => lhs; rw [← ov_tops S.low, e1]
    rw [prodQ_ov (by decide) hB]
    have : mulI [0] (tops s) 1 = List.replicate s.length 0 := by
      rw [mulI_succ]
      show rowI 0 0 _ (List.replicate (1 + (tops s).length - 1) 0) _ = _
      rw [rowI_zero, tops_len]
      congr 1
      omega
    rw [this]
    unfold ov
    rw [List.map_replicate, fr_zero (by omega)]
  have hq := tl _ (List.getLast_mem tn)
  rw [e2, trimQ_nought (by have := S.two; omega)]
  have e3 : sumQ [(0, 1)] [t.getLast tn] = [t.getLast tn] := by
    show [qadd (0, 1) (t.getLast tn)] = _
    rw [zero_qadd hq]
  rw [e3]
  have e4 : wpQ s t 0 = [t.getLast tn] := by
    show [fr (headI t) ((lcmL t : Int) * 1)] = _
    have el : t.length = (t.length - 1) + 1 := by omega
    have eg : t.getLast tn = t[t.length - 1] := List.getLast_eq_getElem tn
    rw [Int.mul_one, headI_eq el, tops_top (fun q hq => (tl q hq).1) (by omega), ← eg, fr_self hq]
  rw [e4]
  rfl
theorem wpI_len (k : Nat) (hk : k ≤ (restI t).length) : (wpI s t k).1.length = (s.length - 1) * k + 1 := by
  have h2 := S.two
  unfold wpI
  rw [putI_len (n := s.length - 1) (by rw [tops_len]; omega), List.length_take, Nat.min_eq_left hk]
theorem wpI_top (k : Nat) (hk : k ≤ (restI t).length) : (wpI s t k).1.getD ((s.length - 1) * k) 0 ≠ 0 := by
  have h2 := S.two
  have e := putI_top (I := tops s) (n := s.length - 2) (by rw [tops_len]; omega) (lcmL s : Int) (headI t) ((restI t).take k)
  rw [List.length_take, Nat.min_eq_left hk, show s.length - 2 + 1 = s.length - 1 by omega] at e
  unfold wpI
  rw [e]
  have a := headI_nz S tl tn tt
  have b := tops_nz S.pos (show s.length - 1 < s.length by omega) (S.tr _ (last_get (by omega)))
  intro z
  rcases Int.mul_eq_zero.mp z with y | y
  · exact a y
  · exact ipow_ne b _ y
theorem wpQ_succ (k : Nat) (hk : k < (restI t).length) (q : Int × Int) (hq : t[t.length - 2 - k]? = some q) : trimQ (sumQ (trimQ (prodQ (wpQ s t k) s (wpQ s t k).length)) [q]) = wpQ s t (k + 1) := by
  have hs := S.pos
  have ht : ∀ q ∈ t, 0 < q.2 := fun q hq => (tl q hq).1
  have h2 := S.two
  have hB := lcm_pos' hs
  have hT := lcm_pos' ht
  have rl := restI_len t
  have hD : 0 < (wpI s t k).2 := putI_pos hB _
  have hDT := Int.mul_pos hT hD
  have l1 := wpI_len S tl tn tt k (by omega)
  have l2 := wpI_len S tl tn tt (k + 1) (by omega)
  have n1 := wpI_top S tl tn tt k (by omega)
  have n2 := wpI_top S tl tn tt (k + 1) (by omega)
  have nI := tops_ne S.ne
  have nF : (wpI s t k).1 ≠ [] := by intro z; rw [z] at l1; simp at l1
  have lI := tops_len s
  have hlt : t.length - 2 - k < t.length := by omega
  have eq : q = fr ((tops t).getD (t.length - 2 - k) 0) (lcmL t : Int) := by
    rw [tops_top ht hlt]
    rw [List.getElem?_eq_getElem hlt] at hq
    have e := Option.some.inj hq
    rw [e]
    exact (fr_self (tl q (e ▸ List.getElem_mem hlt))).symm
  have et : (restI t).getD k 0 = (tops t).getD (t.length - 2 - k) 0 := by
    unfold restI
    have tlen := tops_len t
    have hdl : (tops t).dropLast.length = t.length - 1 := by rw [List.length_dropLast, tlen]
    rw [List.getD_eq_getElem?_getD, List.getElem?_reverse (by omega), hdl, List.getD_eq_getElem?_getD, List.getElem?_dropLast, if_pos (by omega)]
    congr 2
  have epr : prodQ (wpQ s t k) s (wpQ s t k).length = ov ((lcmL t : Int) * ((wpI s t k).2 * (lcmL s : Int))) (mulI (tops s) (wpI s t k).1 (tops s).length) := by
    conv => lhs; rw [show prodQ (wpQ s t k) s = prodQ (wpQ s t k) (ov (lcmL s : Int) (tops s)) by rw [ov_tops S.low]]
    unfold wpQ
    rw [prodQ_ov hDT hB, ov_len, mulI_comm nF nI, Int.mul_assoc]
  have hDB := Int.mul_pos hD hB
  have hTDB := Int.mul_pos hT hDB
  have lm : (mulI (tops s) (wpI s t k).1 (tops s).length).length = ((s.length - 1) * (k + 1)) + 1 := by rw [mulI_len, lI, l1, Nat.mul_add]; omega
  have tm : (mulI (tops s) (wpI s t k).1 (tops s).length).getD ((s.length - 1) * (k + 1)) 0 ≠ 0 := by
    rw [show (s.length - 1) * (k + 1) = (s.length - 1) + (s.length - 1) * k by rw [Nat.mul_add]; omega, top_mulI (by rw [lI]; omega) l1]
    intro z
    rcases Int.mul_eq_zero.mp z with y | y
    · exact tops_nz S.pos (show s.length - 1 < s.length by omega) (S.tr _ (last_get (by omega))) y
    · exact n1 y
  have ew : wpI s t (k + 1) = (addI (mulI (tops s) (wpI s t k).1 (tops s).length) 0 ((tops t).getD (t.length - 2 - k) 0 * ((wpI s t k).2 * (lcmL s : Int))), (wpI s t k).2 * (lcmL s : Int)) := by
    unfold wpI
    rw [take_getD hk, putI_snoc, et]
    rfl
  rw [epr, ov_last hTDB lm tm, eq, sumQ_one hT hDB (by intro z; rw [z] at lm; simp at lm)]
  unfold wpQ
  rw [ew] at n2 l2 ⊢
  exact ov_last hTDB l2 n2
end
end My

set_option Elab.async false
set_option linter.all false
set_option maxRecDepth 100000
set_option maxHeartbeats 4000000
namespace My
open PySem PySem.Spec PyProof.Rows L2 HT
/-! ### xs[i] read for xs[i] += e -/
def rGetL (K : PySem.W.Frag) : V → V → Hp → VK → Prop := fun o i H Q => ∃ p xs k v, o = .ref p ∧ i = .int k ∧ SqL K H p xs ∧ atI xs k = some v ∧ 0 ≤ k ∧ Q v H
theorem get_list {X : Cx} : PGet X (rGetL X.K) := by
  intro pins s σ H o i ov iv Q I ro ri h
  obtain ⟨p, xs, k, v, rfl, rfl, hq, he, h0, q⟩ := h
  cases ro
  obtain ⟨t, rfl⟩ := ri
  obtain ⟨its, r, pl, hz⟩ := I.list hq
  obtain ⟨j, h1, h2, h3, h4, h5⟩ := atI_get he
  obtain ⟨w, ew, rw'⟩ := r.get h2
  have hn := line63
  have hj : k.toNat = j := by
    rw [seqIndex_of h0 h5] at h1
    exact Option.some.inj h1
  exact wpAny_getItem_list pl.isList h0 (by omega) (by rw [hj]; simpa using ew) ⟨v, H, I, rw', q⟩
/-! ### t[::-1] of a tuple -/
section
variable {prog : Program} {w : World} {A : Around} {E : Value → Shared → Prop} {s : Shared}
theorem adjust_rev (n : Nat) : Builtin.Slice.sliceAdjust none none (-1) (n : Int) = ((n : Int) - 1, -1) := rfl
theorem places_rev (n : Nat) : Builtin.Slice.slicePlaces ((n : Int) - 1) (-1) (-1) = n := by
  unfold Builtin.Slice.slicePlaces
  have h1 : ¬ ((-1 : Int) > 0) := by decide
  rw [if_neg h1]
  by_cases h : (n : Int) - 1 > -1
  · rw [if_pos h]
    show (((n : Int) - 1 - -1 - 1) / 1 + 1).toNat = n
    rw [Int.ediv_one]
    omega
  · rw [if_neg h]
    show (0 : Int).toNat = n
    omega
theorem sliceApplied_rev {sl : Addr} {vs : Value} {n : Nat} {Q : Int × Int × Nat → Shared → Prop} (hs : s.heap.IsSliceOf sl .none .none vs) (ps : IsPart vs (some (-1)))
    (h : Q (((n : Int) - 1), -1, n) s) : wpAny (model prog w) A (Builtin.Slice.sliceApplied (.ref sl) (pure (n : Int))) Q E s := by
  obtain ⟨os, hos, hcs, hds⟩ := id hs
  unfold Builtin.Slice.sliceApplied Builtin.Slice.sliceFields
  refine wpAny_bind (wpAny_bind (wpAny_field hos hds (x := .none) rfl (wpAny_bind (wpAny_field hos hds (x := .none) rfl (wpAny_bind (wpAny_field hos hds (x := vs) rfl (wpAny_pure ?_)))))))
  refine wpAny_bind (slicePart_ ps ?_)
  show wpAny _ _ (if ((-1 : Int) == 0) = true then _ else _) _ _ s
  rw [if_neg (by decide)]
  refine wpAny_bind (slicePart_none (wpAny_bind (slicePart_none (wpAny_bind (wpAny_pure ?_)))))
  show wpAny _ _ (match Builtin.Slice.sliceAdjust none none (-1) (n : Int) with | (lo, hi) => pure (lo, (-1 : Int), Builtin.Slice.slicePlaces lo hi (-1))) _ _ s
  rw [adjust_rev]
  show wpAny _ _ (pure ((n : Int) - 1, (-1 : Int), Builtin.Slice.slicePlaces ((n : Int) - 1) (-1) (-1))) _ _ s
  rw [places_rev]
  exact wpAny_pure h
theorem fm_congr {α β : Type} {f g : α → Option β} : ∀ {l : List α}, (∀ m ∈ l, f m = g m) → l.filterMap f = l.filterMap g
  | [], _ => rfl
  | a :: l, h => by
    rw [List.filterMap_cons, List.filterMap_cons, h a List.mem_cons_self, fm_congr fun m hm => h m (List.mem_cons_of_mem _ hm)]
theorem pick_rev (xs : Array Value) : ((List.range xs.size).filterMap fun (m : Nat) => xs[(((xs.size : Int) - 1) + (m : Int) * (-1)).toNat]?).toArray = xs.toList.reverse.toArray := by
  congr 1
  have e : ∀ m ∈ List.range xs.size, xs[(((xs.size : Int) - 1) + (m : Int) * (-1)).toNat]? = xs.toList.reverse[m]? := by
    intro m hm
    have hm' : m < xs.size := List.mem_range.mp hm
    have : (((xs.size : Int) - 1) + (m : Int) * (-1)).toNat = xs.size - 1 - m := by omega
    rw [this, List.getElem?_reverse (by simpa using hm')]
    simp
  rw [fm_congr e]
  have hl : xs.toList.reverse.length = xs.size := by simp
  rw [← hl]
  generalize xs.toList.reverse = l
  refine List.ext_getElem? fun i => ?_
  have h1 : (List.range l.length).filterMap (fun m => l[m]?) = l := by
    induction l with
    | nil => rfl
    | cons a l ih =>
      rw [List.length_cons, List.range_succ_eq_map, List.filterMap_cons]
      simp only [List.getElem?_cons_zero]
      rw [List.filterMap_map]
      congr 1
  rw [h1]
theorem getItem_tuple_rev {t sl : Addr} {items : Array Value} {vs : Value} {Q : Value → Shared → Prop} (ht : IsTup s.heap t items) (hs : s.heap.IsSliceOf sl .none .none vs) (ps : IsPart vs (some (-1)))
    (h : Q (.ref s.heap.objs.size) { s with heap := s.heap.push { cls := .type "tuple", data := .seq items.toList.reverse.toArray } })
    (hsz : items.size ≤ sizeLine) : wpAny (model prog w) A (getItem (.ref t) (.ref sl)) Q E s := by
  have htake : sizeOk (.seq items.toList.reverse.toArray) := by
    show items.toList.reverse.toArray.size ≤ sizeLine
    simpa using hsz
  obtain ⟨os, hos, hcs, hds⟩ := id hs
  have hTs : s.TypeIs (.ref sl) "slice" := ⟨os, hos, hcs⟩
  unfold getItem
  try with_reducible refine wpAny_holding ?_
  first | refine wpAny_bind (wpAny_pure ?_) | skip
  refine wpAny_bind (wpAny_sequenceKey ht.typeIs (by decide) ?_)
  refine wpAny_bind (wpAny_callSpecial?_slot (name := Str.ofString "__getitem__") ht.typeIs PyProof.Rows.slot_tuple_getitem
    (wpAny_call_entry PyProof.Rows.slot_tuple_getitem ht.typeIs entry_tuple_getitem ?_ (args_tuple_getitem _ _)))
  show wpAny _ _ (Builtin.Tuple.tupleItemsOf (.ref t) >>= _) _ _ s
  refine wpAny_bind (tupleItemsOf_ ht ?_)
  refine wpAny_bind (wpAny_typeOf hTs ?_)
  rw [if_pos (by decide)]
  refine wpAny_bind (sliceApplied_rev hs ps ?_)
  have hno : ¬ (((((items.size : Int) - 1)) == 0 && (-1 : Int) == 1 && items.size == items.size) = true) := by
    intro q
    rw [Bool.and_eq_true, Bool.and_eq_true] at q
    exact absurd q.1.2 (by decide)
  show wpAny _ _ (if ((((items.size : Int) - 1)) == 0 && (-1 : Int) == 1 && items.size == items.size) = true then _ else _) _ _ s
  rw [if_neg hno, pick_rev]
  first
    | exact wpAny_bind (m := Builtin.Tuple.tupleExact _) (wpAny_newObj_type (wpAny_pure ⟨_, rfl, wpAny_pure h⟩) htake)
    | exact wpAny_bind (m := Builtin.Tuple.tupleExact _) (wpAny_newObj_type (wpAny_bind (wpAny_pure (wpAny_pure ⟨_, rfl, wpAny_pure h⟩))) htake)
    | exact wpAny_bind (wpAny_bind (m := Builtin.Tuple.tupleExact _) (wpAny_newObj_type (wpAny_pure (wpAny_pure ⟨_, rfl, wpAny_pure h⟩)) htake))
    | exact wpAny_bind (wpAny_bind (m := Builtin.Tuple.tupleExact _) (wpAny_newObj_type (wpAny_pure (wpAny_pure ⟨_, rfl, wpAny_pure h⟩)) htake))
end
def tRevT (K : PySem.W.Frag) (te : TE) : TE := fun σ H Q => te σ H fun x H1 => ∃ a xs, x = .ref a ∧ SqT K H1 a xs ∧ ∀ p, H1 p = none → Q (.ref p) (upd H1 p (.tup xs.reverse))
theorem pe_revT {X : Cx} {e : Expr} {te : TE} {k : Nat} {p1 p2 p3 pos : Pos} (he : PE X e te) : PE X (.Subscript e (.Slice none none (some (.UnaryOp .USub (.Constant (.int 1) k p1) p2)) p3) pos) (tRevT X.K te) := by
  refine ⟨fun pins s σ H Q I h => ?_⟩
  refine Subscript_ (thn (he.run pins s σ H _ I h) fun v s1 ⟨x, H1, I1, r1, q1⟩ => ?_)
  obtain ⟨a, xs, ex, hx, q⟩ := q1
  subst ex
  cases r1
  have hst : PO X (some (.UnaryOp .USub (.Constant (.int 1) k p1) p2)) (tPart (tUn (rU fun i => .int (-i)) (tC (.int 1)))) := po_some (pe_un un_neg pe_int)
  refine wpAny_Slice (thn (po_none.run pins s1 σ H1 (fun o H2 => o = none ∧ H2 = H1) I1 ⟨rfl, rfl⟩) fun vl s2 ⟨l, H2, I2, pl, el, e2⟩ => ?_)
  subst el e2
  refine thn (po_none.run pins s2 σ H2 (fun o H3 => o = none ∧ H3 = H2) I2 ⟨rfl, rfl⟩) fun vu s3 ⟨u, H3, I3, pu, eu, e3⟩ => ?_
  subst eu e3
  refine thn (hst.run pins s3 σ H3 (fun o H4 => o = some (-1) ∧ H4 = H3) I3 ⟨1, rfl, -1, rfl, rfl, rfl⟩) fun vs s4 ⟨o, H4, I4, ps, eo, e4⟩ => ?_
  subst eo e4
  have I5 : Inv X pins σ H4 { s4 with heap := s4.heap.push { cls := .type "slice", data := .fields #[vl, vu, vs] } } := I4.kept (t' := s4.toks) fun b ob q => Heap.get?_push_of_some _ q
  obtain ⟨its, r, ht, hz⟩ := I5.tuple hx
  have hlen := r.length
  cases pl
  cases pu
  show wpAny (model X.prog X.w) X.A (subscriptTail e (.Slice none none (some (.UnaryOp .USub (.Constant (.int 1) k p1) p2)) p3) (.ref a) (.ref s4.heap.objs.size)) (EP X pins σ Q) X.xe { s4 with heap := s4.heap.push { cls := .type "slice", data := .fields #[.none, .none, vs] } }
  refine tail_any (ops := [.ref a, .ref s4.heap.objs.size]) ht.typeIs (PyProof.Rows.slot_tuple_getitem.lookup) ?_ (by with_unfolding_all rfl)
  refine getItem_tuple_rev (s := { s4 with heap := s4.heap.push { cls := .type "slice", data := .fields #[.none, .none, vs] } }) ht (Heap.IsSliceOf.new _ .none .none vs) ps ?_ (by rw [List.size_toArray]; omega)
  refine ⟨.ref _, _, I5.laid (t' := s4.toks) (o := .tup xs.reverse) (fun b ob q => Heap.get?_push_of_some _ q) (Nat.le_refl _) ?_, rfl, q _ (I5.hok.fresh (Nat.le_refl _))⟩
  exact ⟨by rw [List.length_reverse]; exact hz, _, r.reverse, ⟨_, Heap.get?_push_size _ rfl, rfl, _, rfl⟩⟩
/-- a list by places and items -/
theorem for_enumL {K : PySem.W.Frag} {a : Addr} {xs : List V} {g : TG} {tb : TS} {D : Ends} {σ : L2.St} {H : Hp} (Pv : Nat → L2.St → Hp → Prop) (h0 : Pv 0 σ H) (hl : ∀ i σ H, Pv i σ H → SqL K H a xs)
    (hs : ∀ i x σ H, xs[i]? = some x → Pv i σ H → ∀ T, H T = none → g (.ref T) σ (upd H T (.tup [.int (i : Nat), x])) fun σ2 H2 => tb { D with nx := Pv (i + 1), ct := Pv (i + 1), bk := D.nx } σ2 H2) (hd : ∀ σ H, Pv xs.length σ H → D.nx σ H) :
    ∃ W : Nat → Nat → L2.St → Hp → Prop, (∃ m, W 0 m σ H) ∧ ∀ i m σ H, W i m σ H →
      ((Ite K a).stop i H ∧ D.nx σ H) ∨ ((Ite K a).go i H ∧ ∃ N : L2.St → Hp → Prop, (∀ σ' H', N σ' H' → ∃ m', m' < m ∧ W (i + 1) m' σ' H') ∧
        ∀ x H', (Ite K a).yld i H x H' → g x σ H' fun σ2 H2 => tb { D with nx := N, ct := N, bk := D.nx } σ2 H2) := by
  refine ⟨fun i m σ H => m = xs.length - i ∧ i ≤ xs.length ∧ Pv i σ H, ⟨xs.length, by simp, Nat.zero_le _, h0⟩, ?_⟩
  rintro i m σ H ⟨rfl, hi, p⟩
  have q := hl i σ H p
  by_cases hlt : i < xs.length
  · have hx : xs[i]? = some (xs[i]) := List.getElem?_eq_getElem _
    refine .inr ⟨⟨xs, _, q, hx⟩, Pv (i + 1), fun σ' H' p' => ⟨xs.length - (i + 1), by omega, rfl, hlt, p'⟩, fun v H' y => ?_⟩
    obtain ⟨T, x, rfl, nT, rfl, y⟩ := y
    exact hs i x σ H (y xs q) p T nT
  · have e : i = xs.length := by omega
    subst e
    exact .inl ⟨⟨xs, q, Nat.le_refl _⟩, hd σ H p⟩
end My

set_option Elab.async false
set_option linter.all false
set_option maxRecDepth 100000
set_option maxHeartbeats 4000000
namespace My
open PySem PySem.Spec PyProof.Rows L2
/-! ### isinstance(e, c), e the exception that the suite holds, with a dict of its own or none -/
def rIsP (K : PySem.W.Frag) (a : Addr) (cls : Value) (d : Option Addr) : List V → Hp → VK → Prop := fun xs H Q => ∃ (D : Addr) (c : V) (cv : Value) (b : Bool), xs = [.ref a, c] ∧ cls = .ref D ∧ (∀ u, RelV c u → u = cv) ∧ PySem.W.kitOne K (.ref D) cv = some b ∧ ExcC K D ∧
  ((∃ dd fs, d = some dd ∧ H dd = some (.xd fs)) ∨ d = none) ∧ Q (.bl b) H
theorem call_isP {X : Cx} {a : Addr} {oe : Obj} {cls : Value} {d : Option Addr} {pn : List (Addr × Obj)} (hz : Zc cls d oe) (hf : ∃ vs, oe.data = .fields vs) : CallR (X.suite a ((a, oe) :: pn)) (.builtin "isinstance") (rIsP X.K a cls d) := by
  intro pins s σ H xs us Q I r h
  obtain ⟨D, c, cv, b, rfl, rfl, hcv, e, C, hx, q⟩ := h
  cases r with
  | cons rx rr =>
    cases rr with
    | cons rt rr =>
      cases rr
      cases rx
      have ec := hcv _ rt
      subst ec
      obtain ⟨hget, _⟩ := I.pin (a, oe) (List.mem_append.mpr (.inl List.mem_cons_self))
      obtain ⟨vs, hv⟩ := hf
      rcases hx with ⟨dd, fs, rfl, ea⟩ | rfl
      · have hx : ObjOk X.prog X.w H s.heap dd (.xd fs) := I.hok dd _ ea
        obtain ⟨mA, hns, _⟩ := hx
        obtain ⟨od, ho, _⟩ := lookIn_ns hns
        have J : PySem.W.InstAt s.heap a oe D (some od) := ⟨hget, hz.1, by unfold PySem.W.notCls; rw [hv] <;> rfl, by rw [hz.2]; exact ho⟩
        exact PySem.W.kia_one (PySem.W.my_kitx C) I.kIn J e (fun z => nomatch z) fun tk => ⟨.bl b, H, I.kept (t' := tk) fun _ _ z => z, rfl, q⟩
      · have J : PySem.W.InstAt s.heap a oe D none := by
          obtain ⟨oc, od, oda, osl⟩ := oe
          obtain ⟨h1, h2⟩ := hz
          dsimp only at h1 h2 hv
          subst h1 h2 hv
          exact ⟨hget, rfl, rfl, trivial⟩
        exact PySem.W.kia_one (PySem.W.my_kitx C) I.kIn J e (fun z => nomatch z) fun tk => ⟨.bl b, H, I.kept (t' := tk) fun _ _ z => z, rfl, q⟩
end My

set_option Elab.async false
set_option linter.all false
set_option maxRecDepth 100000
set_option maxHeartbeats 4000000
namespace My
open PySem PySem.Spec PyProof.Rows L2
/-! ### math.comb of small numbers, and the numbers of Dickson's steps -/
def combI (a b : Int) : Int := Builtin.Math.fallingProduct a (min b (a - b)).toNat / Builtin.Math.fallingProduct (min b (a - b)) (min b (a - b)).toNat
def combOkAll : Bool := (List.range 65).all fun a => (List.range (a + 1)).all fun b => decide ((combI (a : Nat) (b : Nat)).natAbs < 2 ^ 62)
theorem combOkAll_ok : combOkAll = true := by decide +kernel
theorem comb_small {a b : Nat} (ha : a ≤ 64) (hb : b ≤ a) : (combI a b).natAbs < 2 ^ 62 := by
  have h := combOkAll_ok
  unfold combOkAll at h
  rw [List.all_eq_true] at h
  have h := h a (List.mem_range.mpr (by omega))
  rw [List.all_eq_true] at h
  exact of_decide_eq_true (h b (List.mem_range.mpr (by omega)))
section
variable {X : Cx}
def rComb : List V → Hp → VK → Prop := fun vs H Q => ∃ a b : Nat, vs = [.int a, .int b] ∧ b ≤ a ∧ a ≤ 64 ∧ Q (.int (combI a b)) H
theorem cr_comb : CallR X (.builtin "math.comb") rComb := by
  intro pins s σ H vs us Q I r h
  obtain ⟨a, b, rfl, h1, h2, q⟩ := h
  obtain ⟨t, u, rfl⟩ := Vals.int2 r
  have hs := comb_small h2 h1
  have hl : (combI a b).natAbs.log2 < bitsLine := by
    by_cases z : (combI a b).natAbs = 0
    · rw [z]; decide
    · exact Nat.lt_of_lt_of_le ((Nat.log2_lt z).mpr hs) (by decide)
  have e1 : ¬ min (b : Int) ((a : Int) - b) > Builtin.Math.maxSsize := by
    show ¬ min (b : Int) ((a : Int) - b) > 9223372036854775807
    omega
  have e2 : ¬ min (b : Int) ((a : Int) - b) > Builtin.Math.manyFactors := by
    show ¬ min (b : Int) ((a : Int) - b) > 20000
    omega
  refine PySem.call_function_meets PySem.W.MGF.kind_comb PySem.W.MGF.plain_comb PySem.W.MGF.entry_comb (PySem.W.MGF.args_comb _ _) (PySem.W.mc_run_comb a t b u (by omega) (by omega) (by omega) e1 e2 (by omega) hl).meets ?_
  exact ⟨.int _, H, I.tok _, ⟨_, rfl⟩, q⟩
end
/-- the number at place i of Dickson's step of degree n -/
def cf (n i : Nat) : Int := ((n : Nat) : Int) * combI ((n - i : Nat) : Int) (i : Int) / ((n - i : Nat) : Int)
def cfE (n i : Nat) : Int := if 2 * i ≤ n then (if n = 0 then 2 else cf n i) else 0
def cfOkAll : Bool := (List.range 63).all fun n => (List.range 33).all fun i => decide (cfE (n + 2) (i + 1) = cfE (n + 1) (i + 1) + cfE n i) && decide (cfE (n + 2) 0 = cfE (n + 1) 0)
theorem cfOkAll_ok : cfOkAll = true := by decide +kernel
theorem cf_step {n i : Nat} (hn : n ≤ 62) (hi : i ≤ 32) : cfE (n + 2) (i + 1) = cfE (n + 1) (i + 1) + cfE n i ∧ cfE (n + 2) 0 = cfE (n + 1) 0 := by
  have h := cfOkAll_ok
  unfold cfOkAll at h
  rw [List.all_eq_true] at h
  have h := h n (List.mem_range.mpr (by omega))
  rw [List.all_eq_true] at h
  have h := h i (List.mem_range.mpr (by omega))
  simp only [Bool.and_eq_true, decide_eq_true_eq] at h
  exact h
end My

set_option linter.all false
set_option maxRecDepth 100000
set_option maxHeartbeats 4000000
namespace My
/-! ### Dickson's steps by their values -/
def sumN : Nat → (Nat → Rat) → Rat
  | 0, _ => 0
  | k + 1, f => sumN k f + f k
theorem sumN_shift (f : Nat → Rat) : ∀ k, sumN (k + 1) f = f 0 + sumN k fun i => f (i + 1)
  | 0 => by
    show (0 : Rat) + f 0 = f 0 + 0
    grind
  | k + 1 => by
    have ih := sumN_shift f k
    show sumN (k + 1) f + f (k + 1) = f 0 + (sumN k (fun i => f (i + 1)) + f (k + 1))
    rw [ih]
    grind
theorem sumN_ext {f g : Nat → Rat} : ∀ {k}, (∀ i, i < k → f i = g i) → sumN k f = sumN k g
  | 0, _ => rfl
  | k + 1, h => by
    show sumN k f + f k = sumN k g + g k
    rw [sumN_ext fun i hi => h i (by omega), h k (by omega)]
theorem sumN_zero {f : Nat → Rat} : ∀ {k}, (∀ i, i < k → f i = 0) → sumN k f = 0
  | 0, _ => rfl
  | k + 1, h => by
    show sumN k f + f k = 0
    rw [sumN_zero fun i hi => h i (by omega), h k (by omega)]
    grind
theorem sumN_more {f : Nat → Rat} {k : Nat} : ∀ {m}, (∀ i, k ≤ i → f i = 0) → sumN (k + m) f = sumN k f
  | 0, _ => rfl
  | m + 1, h => by
    show sumN (k + m) f + f (k + m) = sumN k f
    rw [sumN_more h, h _ (by omega)]
    grind
theorem sumN_lin {f g : Nat → Rat} (a b : Rat) : ∀ k, sumN k (fun i => a * f i + b * g i) = a * sumN k f + b * sumN k g
  | 0 => by show (0 : Rat) = a * 0 + b * 0; grind
  | k + 1 => by
    show sumN k (fun i => a * f i + b * g i) + (a * f k + b * g k) = a * (sumN k f + f k) + b * (sumN k g + g k)
    rw [sumN_lin a b k]
    grind
def tD (A x : Rat) (n i : Nat) : Rat := (cfE n i : Rat) * (-A) ^ i * x ^ (n - 2 * i)
def DD (A x : Rat) : Nat → Rat
  | 0 => 2
  | 1 => x
  | n + 2 => x * DD A x (n + 1) - A * DD A x n
theorem cfE_far {n i : Nat} (h : n < 2 * i) : cfE n i = 0 := if_neg (by omega)
theorem tD_far (A x : Rat) {n i : Nat} (h : n < 2 * i) : tD A x n i = 0 := by
  unfold tD
  rw [cfE_far h]
  grind
theorem tD_step (A x : Rat) {n i : Nat} (hn : n ≤ 62) (hi : i ≤ 32) : tD A x (n + 2) (i + 1) = x * tD A x (n + 1) (i + 1) + (-A) * tD A x n i := by
  have h := (cf_step hn hi).1
  unfold tD
  rw [h, show n + 2 - 2 * (i + 1) = n - 2 * i by omega]
  have e1 : (((cfE (n + 1) (i + 1) + cfE n i : Int)) : Rat) = (cfE (n + 1) (i + 1) : Rat) + (cfE n i : Rat) := by
    push_cast
    rfl
  rw [e1]
  by_cases g : 2 * (i + 1) ≤ n + 1
  · have e2 : n - 2 * i = (n + 1 - 2 * (i + 1)) + 1 := by omega
    rw [e2, Rat.pow_succ (-A), Rat.pow_succ x]
    generalize x ^ (n + 1 - 2 * (i + 1)) = y
    generalize (-A) ^ i = z
    grind
  · rw [cfE_far (n := n + 1) (i := i + 1) (by omega), Rat.pow_succ (-A)]
    generalize x ^ (n - 2 * i) = y
    generalize x ^ (n + 1 - 2 * (i + 1)) = y2
    generalize (-A) ^ i = z
    have : ((0 : Int) : Rat) = 0 := rfl
    rw [this]
    grind
theorem tD_first (A x : Rat) {n : Nat} (hn : n ≤ 62) : tD A x (n + 2) 0 = x * tD A x (n + 1) 0 := by
  have h := (cf_step (i := 0) hn (by decide)).2
  unfold tD
  rw [h, show n + 2 - 2 * 0 = (n + 1 - 2 * 0) + 1 by omega, Rat.pow_succ x]
  generalize x ^ (n + 1 - 2 * 0) = y
  grind
theorem sum_DD (A x : Rat) : ∀ n, n ≤ 64 → sumN 33 (tD A x n) = DD A x n
  | 0, _ => by
    rw [sumN_shift, sumN_zero fun i _ => tD_far A x (by omega)]
    unfold tD
    have e : cfE 0 0 = 2 := rfl
    rw [e]
    show ((2 : Int) : Rat) * (-A) ^ 0 * x ^ 0 + 0 = 2
    rw [Rat.pow_zero, Rat.pow_zero]
    have : ((2 : Int) : Rat) = 2 := rfl
    rw [this]
    grind
  | 1, _ => by
    rw [sumN_shift, sumN_zero fun i _ => tD_far A x (by omega)]
    unfold tD
    have e : cfE 1 0 = 1 := by decide +kernel
    rw [e]
    show ((1 : Int) : Rat) * (-A) ^ 0 * x ^ 1 + 0 = x
    rw [Rat.pow_zero, show (1 : Nat) = 0 + 1 from rfl, Rat.pow_succ, Rat.pow_zero]
    have : ((1 : Int) : Rat) = 1 := rfl
    rw [this]
    grind
  | n + 2, h => by
    have h1 := sum_DD A x (n + 1) (by omega)
    have h0 := sum_DD A x n (by omega)
    show _ = x * DD A x (n + 1) - A * DD A x n
    rw [← h1, ← h0, sumN_shift, sumN_shift (tD A x (n + 1)), tD_first A x (by omega), sumN_ext (g := fun i => x * tD A x (n + 1) (i + 1) + (-A) * tD A x n i) (fun i hi => tD_step A x (by omega) (by omega)), sumN_lin]
    have e : sumN 33 (tD A x n) = sumN 32 (tD A x n) + tD A x n 32 := rfl
    rw [e, tD_far A x (n := n) (i := 32) (by omega)]
    grind
/-- at y + z, where y z is the number -/
theorem DD_two {A y z : Rat} (h : y * z = A) : ∀ n, DD A (y + z) n = y ^ n + z ^ n ∧ DD A (y + z) (n + 1) = y ^ (n + 1) + z ^ (n + 1)
  | 0 => by
    refine ⟨?_, ?_⟩
    · show (2 : Rat) = y ^ 0 + z ^ 0
      rw [Rat.pow_zero, Rat.pow_zero]
      grind
    · show y + z = y ^ (0 + 1) + z ^ (0 + 1)
      rw [Rat.pow_succ, Rat.pow_succ, Rat.pow_zero, Rat.pow_zero]
      grind
  | n + 1 => by
    obtain ⟨a, b⟩ := DD_two h n
    refine ⟨b, ?_⟩
    show (y + z) * DD A (y + z) (n + 1) - A * DD A (y + z) n = _
    rw [a, b, ← h, Rat.pow_succ y (n + 1), Rat.pow_succ z (n + 1), Rat.pow_succ y n, Rat.pow_succ z n]
    generalize y ^ n = p
    generalize z ^ n = q
    grind
theorem DD_sum (A x : Rat) : ∀ n, (∀ p, n ≤ p → DD A x (p + n) = DD A x n * DD A x p - A ^ n * DD A x (p - n)) ∧ (∀ p, n + 1 ≤ p → DD A x (p + (n + 1)) = DD A x (n + 1) * DD A x p - A ^ (n + 1) * DD A x (p - (n + 1)))
  | 0 => by
    refine ⟨fun p _ => ?_, fun p hp => ?_⟩
    · show DD A x p = 2 * DD A x p - A ^ 0 * DD A x p
      rw [Rat.pow_zero]
      grind
    · obtain ⟨k, rfl⟩ : ∃ k, p = k + 1 := ⟨p - 1, by omega⟩
      show x * DD A x (k + 1) - A * DD A x k = x * DD A x (k + 1) - A ^ (0 + 1) * DD A x k
      rw [Rat.pow_succ, Rat.pow_zero]
      grind
  | n + 1 => by
    obtain ⟨a, b⟩ := DD_sum A x n
    refine ⟨b, fun p hp => ?_⟩
    obtain ⟨k, rfl⟩ : ∃ k, p = k + (n + 2) := ⟨p - (n + 2), by omega⟩
    have h1 := b (k + (n + 2)) (by omega)
    have h0 := a (k + (n + 2)) (by omega)
    rw [show k + (n + 2) - (n + 1) = k + 1 by omega] at h1
    rw [show k + (n + 2) - n = k + 2 by omega] at h0
    have e : DD A x (k + (n + 2) + (n + 1 + 1)) = x * DD A x (k + (n + 2) + (n + 1)) - A * DD A x (k + (n + 2) + n) := rfl
    have e2 : DD A x (n + 1 + 1) = x * DD A x (n + 1) - A * DD A x n := rfl
    have e3 : DD A x (k + 2) = x * DD A x (k + 1) - A * DD A x k := rfl
    rw [e, e2, h1, h0, e3, show k + (n + 2) - (n + 1 + 1) = k by omega, Rat.pow_succ A (n + 1), Rat.pow_succ A n]
    generalize A ^ n = p
    grind
/-- one behind another one -/
theorem DD_mul (A x : Rat) (n : Nat) : ∀ m, DD A x (m * n) = DD (A ^ n) (DD A x n) m ∧ DD A x ((m + 1) * n) = DD (A ^ n) (DD A x n) (m + 1)
  | 0 => by
    refine ⟨?_, ?_⟩
    · rw [Nat.zero_mul]
      rfl
    · rw [show (0 + 1) * n = n by omega]
      rfl
  | m + 1 => by
    obtain ⟨a, b⟩ := DD_mul A x n m
    refine ⟨b, ?_⟩
    have h := (DD_sum A x n).1 ((m + 1) * n) (Nat.le_mul_of_pos_left n (by omega))
    have e1 : (m + 1 + 1) * n = (m + 1) * n + n := by rw [Nat.add_mul (m + 1) 1 n, Nat.one_mul]
    have e2 : (m + 1) * n - n = m * n := by rw [Nat.add_mul, Nat.one_mul]; omega
    rw [e1, h, e2, a, b]
    rfl
end My

set_option linter.all false
set_option maxRecDepth 100000
set_option maxHeartbeats 4000000
namespace My
/-! ### the numbers of Dickson's steps, as the program makes them -/
def oppQ (a : Int × Int) : Int × Int := (-a.1, a.2)
def powO (a : Int × Int) : Nat → Int × Int
  | 0 => (1, 1)
  | i + 1 => qmul (powO a i) (oppQ a)
def entry (n : Nat) (a : Int × Int) (i : Nat) : Int × Int := fr (cf n i * (powO a i).1) (powO a i).2
def dL (n : Nat) (a : Int × Int) (i : Nat) : List (Int × Int) := (List.range i).foldl (fun l j => l.set (n - 2 * j) (entry n a j)) (List.replicate (n + 1) (0, 1))
def dickL (n : Nat) (a : Int × Int) : List (Int × Int) := dL n a (n / 2 + 1)
theorem dL_succ (n : Nat) (a : Int × Int) (i : Nat) : dL n a (i + 1) = (dL n a i).set (n - 2 * i) (entry n a i) := by
  unfold dL
  rw [List.range_succ, List.foldl_append]
  rfl
theorem dL_len (n : Nat) (a : Int × Int) : ∀ i, (dL n a i).length = n + 1
  | 0 => List.length_replicate
  | i + 1 => by rw [dL_succ, List.length_set, dL_len n a i]
theorem oppQ_low {a : Int × Int} (h : Low a) : Low (oppQ a) := by
  refine ⟨h.1, ?_⟩
  have := h.2
  show gc (-a.1) a.2 = 1
  unfold gc
  rw [Int.natAbs_neg]
  exact this
theorem oppQ_val {a : Int × Int} : val (oppQ a) = -val a := by
  show ((-a.1 : Int) : Rat) / (a.2 : Rat) = -((a.1 : Rat) / (a.2 : Rat))
  rw [Rat.intCast_neg]
  grind
theorem powO_ok {a : Int × Int} (h : 0 < a.2) : ∀ i, Low (powO a i) ∧ val (powO a i) = (-val a) ^ i
  | 0 => by
    refine ⟨low_1, ?_⟩
    rw [Rat.pow_zero]
    show ((1 : Int) : Rat) / ((1 : Int) : Rat) = 1
    have : ((1 : Int) : Rat) = 1 := rfl
    rw [this]
    grind
  | i + 1 => by
    obtain ⟨h1, h2⟩ := powO_ok h i
    have ho : 0 < (oppQ a).2 := h
    refine ⟨qmul_low h1.1 ho, ?_⟩
    show val (qmul (powO a i) (oppQ a)) = _
    rw [qmul_val h1.1 ho, h2, oppQ_val, Rat.pow_succ]
theorem entry_ok {n : Nat} {a : Int × Int} (h : 0 < a.2) (i : Nat) : Low (entry n a i) ∧ val (entry n a i) = (cf n i : Rat) * (-val a) ^ i := by
  obtain ⟨h1, h2⟩ := powO_ok h i
  refine ⟨fr_low h1.1, ?_⟩
  unfold entry
  rw [fr_val h1.1, ← h2]
  unfold val
  rw [Rat.intCast_mul]
  have := rat_ne h1.1
  grind
theorem pval_set (x : Rat) (v : Rat) : ∀ (l : List Rat) (j : Nat) (c : Rat), l[j]? = some c → pval (l.set j v) x = pval l x + (v - c) * x ^ j
  | [], j, c, h => by cases h
  | d :: l, 0, c, h => by
    have e : d = c := Option.some.inj h
    show v + x * pval l x = d + x * pval l x + (v - c) * x ^ 0
    rw [e, Rat.pow_zero]
    grind
  | d :: l, j + 1, c, h => by
    have ih := pval_set x v l j c (by simpa using h)
    show d + x * pval (l.set j v) x = d + x * pval l x + (v - c) * x ^ (j + 1)
    rw [ih, Rat.pow_succ]
    generalize x ^ j = y
    grind
theorem dL_far (n : Nat) (a : Int × Int) : ∀ i k, k ≤ n → (∀ j, j < i → k ≠ n - 2 * j) → (dL n a i)[k]? = some (0, 1)
  | 0, k, hk, _ => by
    show (List.replicate (n + 1) ((0 : Int), (1 : Int)))[k]? = _
    rw [List.getElem?_replicate, if_pos (by omega)]
  | i + 1, k, hk, h => by
    rw [dL_succ, List.getElem?_set, if_neg (fun e => h i (by omega) e.symm)]
    exact dL_far n a i k hk fun j hj => h j (by omega)
theorem pval_noughtsD (x : Rat) : ∀ n, pval ((List.replicate n ((0 : Int), (1 : Int))).map val) x = 0
  | 0 => rfl
  | n + 1 => by
    rw [List.replicate_succ, List.map_cons]
    show val (0, 1) + x * pval _ x = 0
    rw [pval_noughtsD x n, val_01]
    grind
theorem dL_val {n : Nat} {a : Int × Int} (h : 0 < a.2) (x : Rat) : ∀ i, i ≤ n / 2 + 1 → pval ((dL n a i).map val) x = sumN i fun j => (cf n j : Rat) * (-val a) ^ j * x ^ (n - 2 * j)
  | 0, _ => pval_noughtsD x _
  | i + 1, hi => by
    have ih := dL_val (n := n) h x i (by omega)
    have hf := dL_far n a i (n - 2 * i) (by omega) (fun j hj => by omega)
    rw [dL_succ, List.map_set, pval_set x _ _ _ (val (0, 1)) (by rw [List.getElem?_map, hf]; rfl), ih, (entry_ok h i).2, val_01]
    show _ = sumN i (fun j => (cf n j : Rat) * (-val a) ^ j * x ^ (n - 2 * j)) + (cf n i : Rat) * (-val a) ^ i * x ^ (n - 2 * i)
    generalize sumN i _ = S
    generalize x ^ (n - 2 * i) = y
    generalize (-val a) ^ i = z
    generalize (cf n i : Rat) = c
    clear ih hf
    grind
theorem dick_val {n : Nat} {a : Int × Int} (h : 0 < a.2) (h1 : 1 ≤ n) (h2 : n ≤ 64) (x : Rat) : pval ((dickL n a).map val) x = DD (val a) x n := by
  unfold dickL
  rw [dL_val h x _ (Nat.le_refl _), ← sum_DD (val a) x n h2]
  obtain ⟨m, hm⟩ : ∃ m, n / 2 + 1 + m = 33 := ⟨33 - (n / 2 + 1), by omega⟩
  have e : sumN 33 (tD (val a) x n) = sumN (n / 2 + 1) (tD (val a) x n) := by
    rw [← hm]
    exact sumN_more fun i hi => tD_far _ _ (by omega)
  rw [e]
  refine sumN_ext fun i hi => ?_
  unfold tD cfE
  rw [if_pos (by omega), if_neg (by omega)]
theorem dL_low {n : Nat} {a : Int × Int} (h : 0 < a.2) : ∀ i, ∀ q ∈ dL n a i, Low q
  | 0, q, hq => by
    rw [List.eq_of_mem_replicate hq]
    exact low_0
  | i + 1, q, hq => by
    rw [dL_succ] at hq
    rcases List.mem_or_eq_of_mem_set hq with z | z
    · exact dL_low h i q z
    · rw [z]
      exact (entry_ok h i).1
def cf0All : Bool := (List.range 65).all fun n => n == 0 || decide (cf n 0 = 1)
theorem cf0All_ok : cf0All = true := by decide +kernel
theorem cf0 {n : Nat} (h1 : 1 ≤ n) (h2 : n ≤ 64) : cf n 0 = 1 := by
  have h := cf0All_ok
  unfold cf0All at h
  rw [List.all_eq_true] at h
  have h := h n (List.mem_range.mpr (by omega))
  simp only [Bool.or_eq_true, beq_iff_eq, decide_eq_true_eq] at h
  rcases h with z | z
  · omega
  · exact z
theorem dL_top {n : Nat} {a : Int × Int} (h1 : 1 ≤ n) (h2 : n ≤ 64) : ∀ i, 1 ≤ i → i ≤ n / 2 + 1 → (dL n a i)[n]? = some (1, 1)
  | 1, _, _ => by
    rw [dL_succ, show n - 2 * 0 = n by omega, List.getElem?_set, if_pos rfl, if_pos (by rw [dL_len]; omega)]
    unfold entry
    rw [cf0 h1 h2]
    show some (fr (1 * 1) 1) = some (1, 1)
    decide
  | i + 2, _, hi => by
    rw [dL_succ, List.getElem?_set, if_neg (by omega)]
    exact dL_top h1 h2 (i + 1) (by omega) (by omega)
theorem dick_stp {n : Nat} {a : Int × Int} (h : 0 < a.2) (h1 : 1 ≤ n) (h2 : n ≤ 64) : Stp (dickL n a) := by
  have hl : (dickL n a).length = n + 1 := dL_len _ _ _
  refine ⟨dL_low h _, by omega, fun q hq => ?_⟩
  have ht := dL_top (a := a) h1 h2 (n / 2 + 1) (by omega) (Nat.le_refl _)
  rw [List.getLast?_eq_getElem?, hl] at hq
  have hq : (dL n a (n / 2 + 1))[n]? = some q := hq
  rw [ht] at hq
  rw [← Option.some.inj hq]
  decide
end My

set_option linter.all false
set_option maxRecDepth 100000
set_option maxHeartbeats 4000000
namespace My
/-! ### sums, products, trimming by values -/
theorem kept_val (s : List (Int × Int)) (x : Rat) : ∀ j, j ≤ s.length → pval ((s.take (keptOf s j)).map val) x = pval ((s.take j).map val) x
  | 0, _ => rfl
  | 1, _ => rfl
  | j + 2, h => by
    unfold keptOf
    by_cases g : s[j + 1]? = some (0, 1)
    · rw [if_pos g, kept_val s x (j + 1) (by omega)]
      have e : s.take (j + 2) = s.take (j + 1) ++ [(0, 1)] := by
        rw [List.take_succ, g]
        rfl
      rw [e, List.map_append]
      show _ = pval (List.map val (s.take (j + 1)) ++ [val (0, 1)]) x
      rw [pval_snoc, val_01]
      grind
    · rw [if_neg g]
theorem trimQ_val (s : List (Int × Int)) (x : Rat) : pval ((trimQ s).map val) x = pval (s.map val) x := by
  unfold trimQ
  rw [kept_val s x _ (Nat.le_refl _), List.take_length]
theorem trimQ_len (s : List (Int × Int)) : (trimQ s).length ≤ s.length := by
  unfold trimQ
  rw [List.length_take]
  exact Nat.min_le_right _ _
theorem trimQ_mem {s : List (Int × Int)} {q : Int × Int} (h : q ∈ trimQ s) : q ∈ s := List.mem_of_mem_take h
theorem sumN_mul (c : Rat) (f : Nat → Rat) : ∀ k, sumN k (fun i => c * f i) = c * sumN k f
  | 0 => by show (0 : Rat) = c * 0; grind
  | k + 1 => by
    show sumN k (fun i => c * f i) + c * f k = c * (sumN k f + f k)
    rw [sumN_mul c f k]
    grind
theorem pval_sum (x : Rat) : ∀ (l : List (Int × Int)) (n : Nat), l.length ≤ n → pval (l.map val) x = sumN n fun i => val (l.getD i (0, 1)) * x ^ i
  | [], n, _ => by
    rw [sumN_zero]
    · rfl
    · intro i _
      show val (0, 1) * x ^ i = 0
      rw [val_01]
      grind
  | c :: l, 0, h => by simp at h
  | c :: l, n + 1, h => by
    rw [sumN_shift]
    show val c + x * pval (l.map val) x = val c * x ^ 0 + sumN n fun i => val (l.getD i (0, 1)) * x ^ (i + 1)
    rw [pval_sum x l n (by simpa using h), ← sumN_mul, Rat.pow_zero, sumN_ext (f := fun i => val (l.getD i (0, 1)) * x ^ (i + 1)) (g := fun i => x * (val (l.getD i (0, 1)) * x ^ i))]
    · grind
    · intro i _
      rw [Rat.pow_succ]
      generalize x ^ i = y
      grind
theorem getD_pos {s : List (Int × Int)} (h : ∀ q ∈ s, 0 < q.2) (i : Nat) : 0 < (s.getD i (0, 1)).2 := by
  rw [List.getD_eq_getElem?_getD]
  cases e : s[i]? with
  | none => show (0 : Int) < 1; decide
  | some q => exact h q (List.mem_of_getElem? e)
theorem sumQ_len (s t : List (Int × Int)) : (sumQ s t).length = max s.length t.length := by
  unfold sumQ
  rw [List.length_map, List.length_range]
theorem sumQ_low {s t : List (Int × Int)} (hs : ∀ q ∈ s, 0 < q.2) (ht : ∀ q ∈ t, 0 < q.2) : ∀ q ∈ sumQ s t, Low q := by
  intro q hq
  obtain ⟨i, _, rfl⟩ := List.mem_map.mp hq
  exact qadd_low (getD_pos hs i) (getD_pos ht i)
theorem sumQ_val {s t : List (Int × Int)} (hs : ∀ q ∈ s, 0 < q.2) (ht : ∀ q ∈ t, 0 < q.2) (x : Rat) : pval ((sumQ s t).map val) x = pval (s.map val) x + pval (t.map val) x := by
  rw [pval_sum x (sumQ s t) (max s.length t.length) (by rw [sumQ_len]; exact Nat.le_refl _), pval_sum x s (max s.length t.length) (Nat.le_max_left _ _), pval_sum x t (max s.length t.length) (Nat.le_max_right _ _)]
  have e := sumN_lin (f := fun i => val (s.getD i (0, 1)) * x ^ i) (g := fun i => val (t.getD i (0, 1)) * x ^ i) 1 1 (max s.length t.length)
  rw [show (1 : Rat) * sumN (max s.length t.length) (fun i => val (s.getD i (0, 1)) * x ^ i) + 1 * sumN (max s.length t.length) (fun i => val (t.getD i (0, 1)) * x ^ i) = sumN (max s.length t.length) (fun i => val (s.getD i (0, 1)) * x ^ i) + sumN (max s.length t.length) (fun i => val (t.getD i (0, 1)) * x ^ i) by grind] at e
  rw [← e]
  refine sumN_ext fun i hi => ?_
  have e2 : (sumQ s t).getD i (0, 1) = qadd (s.getD i (0, 1)) (t.getD i (0, 1)) := by
    unfold sumQ
    rw [List.getD_eq_getElem?_getD, List.getElem?_map, List.getElem?_range hi]
    rfl
  rw [e2, qadd_val (getD_pos hs i) (getD_pos ht i)]
  generalize x ^ i = y
  grind
theorem prodQ_val {D E : Int} (hD : 0 < D) (hE : 0 < E) {F I : List Int} (hI : I ≠ []) (x : Rat) : pval ((prodQ (ov D F) (ov E I) F.length).map val) x = pval ((ov D F).map val) x * pval ((ov E I).map val) x := by
  rw [prodQ_ov hD hE, ov_val (Int.mul_pos hD hE), ov_val hD, ov_val hE, iv_mulI x F I hI _ (Nat.le_refl _), List.take_length, Rat.intCast_mul]
  have h1 := rat_ne hD
  have h2 := rat_ne hE
  grind
theorem same_len {s t : List (Int × Int)} (hs : ∀ q ∈ s, Low q) (ht : ∀ q ∈ t, Low q) (hl : s.length = t.length) (h : ∀ x, pval (s.map val) x = pval (t.map val) x) : s = t := by
  have tr : ∀ l : List (Int × Int), Tr (l ++ [(1, 1)]) := fun l q hq => by
    rw [List.getLast?_append] at hq
    have : q = (1, 1) := (Option.some.inj hq).symm
    rw [this]
    decide
  have lw : ∀ {l : List (Int × Int)}, (∀ q ∈ l, Low q) → ∀ q ∈ l ++ [(1, 1)], Low q := fun {l} hl q hq => by
    rcases List.mem_append.mp hq with z | z
    · exact hl q z
    · rw [List.mem_singleton.mp z]
      exact low_1
  have e := canon (lw hs) (lw ht) (tr s) (tr t) fun x => by
    rw [List.map_append, List.map_append]
    show pval (s.map val ++ [val (1, 1)]) x = pval (t.map val ++ [val (1, 1)]) x
    rw [pval_snoc, pval_snoc, h x, List.length_map, List.length_map, hl]
  exact List.append_cancel_right e
end My

set_option linter.all false
set_option maxRecDepth 100000
set_option maxHeartbeats 4000000
namespace My
/-! ### how far a step can be bounded: numbers of one sign -/
def hornN (l : List Nat) (w : Nat) : Nat := l.foldr (fun t f => f * w + t) 0
def hornZ (l : List Int) (w : Int) : Int := l.foldr (fun t f => f * w + t) 0
def intsN (l : List Nat) : List Int := l.map fun (n : Nat) => (n : Int)
theorem hornZ_nat (w : Nat) : ∀ l : List Nat, hornZ (intsN l) w = (hornN l w : Nat)
  | [] => rfl
  | t :: l => by
    show hornZ (intsN l) w * w + t = ((hornN l w * w + t : Nat) : Int)
    rw [hornZ_nat w l, Int.natCast_add, Int.natCast_mul]
theorem hornZ_neg (w : Int) : ∀ l : List Int, hornZ (l.map fun t => -t) w = -hornZ l w
  | [] => rfl
  | t :: l => by
    show hornZ (l.map fun t => -t) w * w + -t = -(hornZ l w * w + t)
    rw [hornZ_neg w l, Int.neg_mul]
    omega
theorem hornZ_app (a b : List Int) (x : Int) : hornZ (a ++ b) x = hornZ a x + x ^ a.length * hornZ b x := by
  induction a with
  | nil =>
    show hornZ b x = 0 + x ^ 0 * hornZ b x
    rw [Int.pow_zero]
    omega
  | cons t a ih =>
    show hornZ (a ++ b) x * x + t = (hornZ a x * x + t) + x ^ (a.length + 1) * hornZ b x
    rw [ih, Int.pow_succ, Int.add_mul]
    have : x ^ a.length * hornZ b x * x = x ^ a.length * x * hornZ b x := by
      rw [Int.mul_assoc, Int.mul_assoc, Int.mul_comm x]
    omega
theorem hornZ_bd {t n : Nat} {x : Int} (hx : x.natAbs < 2 ^ n) : ∀ {ns : List Int}, (∀ z ∈ ns, z.natAbs < 2 ^ t) → (hornZ ns x).natAbs < 2 ^ (t + (n + 1) * ns.length)
  | [], _ => by
    show (0 : Int).natAbs < _
    exact Nat.two_pow_pos _
  | z :: ns, h => by
    have ih := hornZ_bd hx (ns := ns) fun y hy => h y (List.mem_cons_of_mem _ hy)
    have hz := h z List.mem_cons_self
    show (hornZ ns x * x + z).natAbs < _
    have h1 : (hornZ ns x * x).natAbs < 2 ^ (t + (n + 1) * ns.length + n) := by
      rw [Int.natAbs_mul, Nat.pow_add]
      exact Nat.mul_lt_mul'' ih hx
    have h2 : z.natAbs < 2 ^ (t + (n + 1) * ns.length + n) := Nat.lt_of_lt_of_le hz (Nat.pow_le_pow_right (by decide) (by omega))
    have h3 := Int.natAbs_add_le (hornZ ns x * x) z
    have e : t + (n + 1) * (z :: ns).length = t + (n + 1) * ns.length + n + 1 := by rw [List.length_cons, Nat.mul_add]; omega
    rw [e, Nat.pow_succ]
    omega
/-- the head outweighs all else, and the number itself D times -/
def Reach (l : List Nat) (h D w : Nat) : Prop := D * w + hornN l w ≤ h * w ^ l.length
instance (l : List Nat) (h D w : Nat) : Decidable (Reach l h D w) := inferInstanceAs (Decidable (_ ≤ _))
/-- what the program reckons -/
theorem reach_red (l : List Nat) (h D w : Nat) : Reach l h D w ↔ (D : Int) * w ≤ hornZ ((intsN l).map (fun t => -t) ++ [(h : Int)]) w := by
  rw [hornZ_app, hornZ_neg, hornZ_nat]
  have e1 : hornZ [(h : Int)] w = h := by show (0 : Int) * w + h = h; omega
  have e2 : ((intsN l).map fun t => -t).length = l.length := by unfold intsN; simp
  rw [e1, e2]
  unfold Reach
  have e3 : ((h * w ^ l.length : Nat) : Int) = (w : Int) ^ l.length * h := by
    rw [Int.natCast_mul, Int.natCast_pow, Int.mul_comm]
  have e4 : ((D * w : Nat) : Int) = (D : Int) * w := Int.natCast_mul _ _
  omega
theorem horn_up {w v : Nat} (h : w ≤ v) : ∀ l : List Nat, w ^ l.length * hornN l v ≤ v ^ l.length * hornN l w
  | [] => Nat.le_refl _
  | t :: l => by
    show w ^ (l.length + 1) * (hornN l v * v + t) ≤ v ^ (l.length + 1) * (hornN l w * w + t)
    have ih := horn_up h l
    have h1 : w ^ (l.length + 1) * (hornN l v * v) ≤ v ^ (l.length + 1) * (hornN l w * w) := by
      have e1 : w ^ (l.length + 1) * (hornN l v * v) = (w ^ l.length * hornN l v) * (w * v) := by rw [Nat.pow_succ]; ac_rfl
      have e2 : v ^ (l.length + 1) * (hornN l w * w) = (v ^ l.length * hornN l w) * (w * v) := by rw [Nat.pow_succ]; ac_rfl
      rw [e1, e2]
      exact Nat.mul_le_mul_right _ ih
    have h2 : w ^ (l.length + 1) * t ≤ v ^ (l.length + 1) * t := Nat.mul_le_mul_right _ (Nat.pow_le_pow_left h _)
    rw [Nat.mul_add, Nat.mul_add]
    omega
theorem reach_up {l : List Nat} {h D w v : Nat} (hw : 1 ≤ w) (hv : w ≤ v) (hl : 1 ≤ l.length) (r : Reach l h D w) : Reach l h D v := by
  unfold Reach at r ⊢
  have p0 : 0 < w ^ l.length := Nat.pow_pos hw
  have h1 := horn_up hv l
  have h2 : w ^ l.length * (D * v) ≤ v ^ l.length * (D * w) := by
    obtain ⟨n, hn⟩ : ∃ n, l.length = n + 1 := ⟨l.length - 1, by omega⟩
    rw [hn]
    have e1 : w ^ (n + 1) * (D * v) = w ^ n * (D * (w * v)) := by rw [Nat.pow_succ]; ac_rfl
    have e2 : v ^ (n + 1) * (D * w) = v ^ n * (D * (w * v)) := by rw [Nat.pow_succ]; ac_rfl
    rw [e1, e2]
    exact Nat.mul_le_mul_right _ (Nat.pow_le_pow_left hv _)
  have h3 : v ^ l.length * (D * w + hornN l w) ≤ v ^ l.length * (h * w ^ l.length) := Nat.mul_le_mul_left _ r
  have e3 : v ^ l.length * (h * w ^ l.length) = w ^ l.length * (h * v ^ l.length) := by ac_rfl
  rw [e3, Nat.mul_add] at h3
  refine Nat.le_of_mul_le_mul_left ?_ p0
  rw [Nat.mul_add]
  omega
theorem hornN_le {w : Nat} (hw : 1 ≤ w) : ∀ l : List Nat, l ≠ [] → hornN l w ≤ l.sum * w ^ (l.length - 1)
  | [], h => absurd rfl h
  | [t], _ => by show 0 * w + t ≤ [t].sum * w ^ 0; simp
  | t :: y :: l, _ => by
    have ih := hornN_le hw (y :: l) (by simp)
    show hornN (y :: l) w * w + t ≤ (t + (y :: l).sum) * w ^ ((y :: l).length)
    have e : (y :: l).length = ((y :: l).length - 1) + 1 := by simp
    rw [e, Nat.pow_succ, Nat.add_mul]
    have h1 := Nat.mul_le_mul_right w ih
    have h2 : t * 1 ≤ t * (w ^ ((y :: l).length - 1) * w) := Nat.mul_le_mul_left _ (by rw [← Nat.pow_succ]; exact Nat.pow_pos hw)
    have e2 : (y :: l).sum * w ^ ((y :: l).length - 1) * w = (y :: l).sum * (w ^ ((y :: l).length - 1) * w) := Nat.mul_assoc _ _ _
    omega
/-- so far it is surely bounded -/
theorem reach_far {l : List Nat} {h D w : Nat} (hl : 2 ≤ l.length) (h1 : 1 ≤ h) (w1 : 1 ≤ w) (hw : D + l.sum ≤ w) : Reach l h D w := by
  unfold Reach
  have a := hornN_le w1 l (by intro z; rw [z] at hl; simp at hl)
  obtain ⟨n, hn⟩ : ∃ n, l.length = n + 2 := ⟨l.length - 2, by omega⟩
  rw [hn] at a ⊢
  have e0 : n + 2 - 1 = n + 1 := rfl
  rw [e0] at a
  have b : D * w ≤ D * w ^ (n + 1) := Nat.mul_le_mul_left _ (by rw [Nat.pow_succ]; exact Nat.le_mul_of_pos_left _ (Nat.pow_pos w1))
  have c : (D + l.sum) * w ^ (n + 1) ≤ w * w ^ (n + 1) := Nat.mul_le_mul_right _ hw
  have d : 1 * w ^ (n + 2) ≤ h * w ^ (n + 2) := Nat.mul_le_mul_right _ h1
  have e : w * w ^ (n + 1) = w ^ (n + 2) := by rw [Nat.mul_comm, ← Nat.pow_succ]
  rw [Nat.add_mul] at c
  omega
structure Least (P : Nat → Prop) (w : Nat) : Prop where
  one : 1 ≤ w
  ok : P w
  no : ∀ v, 1 ≤ v → v < w → ¬ P v
theorem Least.same {P : Nat → Prop} {a b : Nat} (h : Least P a) (g : Least P b) : a = b := by
  rcases Nat.lt_trichotomy a b with z | z | z
  · exact absurd h.ok (g.no a h.one z)
  · exact z
  · exact absurd g.ok (h.no b g.one z)
/-! ### a step's value over one number -/
/-- the sum of l's numbers times a^k b^(n-k), n their number -/
def homN : List Nat → Nat → Nat → Nat
  | [], _, _ => 0
  | t :: l, a, b => a * homN l a b + t * b ^ (l.length + 1)
def homZ : List Int → Int → Int → Int
  | [], _, _ => 0
  | t :: l, a, b => a * homZ l a b + t * b ^ (l.length + 1)
theorem hom_le {w p q : Nat} (h : w * q ≤ p) : ∀ l : List Nat, w ^ l.length * homN l p q ≤ p ^ l.length * hornN l w
  | [] => Nat.le_refl _
  | t :: l => by
    show w ^ (l.length + 1) * (p * homN l p q + t * q ^ (l.length + 1)) ≤ p ^ (l.length + 1) * (hornN l w * w + t)
    have ih := hom_le h l
    have h1 : w ^ (l.length + 1) * (p * homN l p q) ≤ p ^ (l.length + 1) * (hornN l w * w) := by
      have e1 : w ^ (l.length + 1) * (p * homN l p q) = (w ^ l.length * homN l p q) * (w * p) := by rw [Nat.pow_succ]; ac_rfl
      have e2 : p ^ (l.length + 1) * (hornN l w * w) = (p ^ l.length * hornN l w) * (w * p) := by rw [Nat.pow_succ]; ac_rfl
      rw [e1, e2]
      exact Nat.mul_le_mul_right _ ih
    have h2 : w ^ (l.length + 1) * (t * q ^ (l.length + 1)) ≤ p ^ (l.length + 1) * t := by
      have e : w ^ (l.length + 1) * (t * q ^ (l.length + 1)) = (w * q) ^ (l.length + 1) * t := by rw [Nat.mul_pow]; ac_rfl
      rw [e]
      exact Nat.mul_le_mul_right _ (Nat.pow_le_pow_left h _)
    rw [Nat.mul_add, Nat.mul_add]
    omega
/-- beyond the bound the head outweighs all else -/
theorem grow_nat {l : List Nat} {h D w p q : Nat} (hl : 2 ≤ l.length) (D1 : 1 ≤ D) (w1 : 1 ≤ w) (hp : w * q < p) (r : Reach l h D w) : D * p * q ^ (l.length - 1) + homN l p q < h * p ^ l.length := by
  unfold Reach at r
  have p0 : 0 < w ^ l.length := Nat.pow_pos w1
  have p1 : 0 < p := by omega
  have h1 := hom_le (Nat.le_of_lt hp) l
  have h2 : w ^ l.length * (D * p * q ^ (l.length - 1)) < p ^ l.length * (D * w) := by
    obtain ⟨n, hn⟩ : ∃ n, l.length = n + 1 := ⟨l.length - 1, by omega⟩
    have n0 : n ≠ 0 := by omega
    rw [hn]
    have e0 : n + 1 - 1 = n := rfl
    rw [e0]
    have e1 : w ^ (n + 1) * (D * p * q ^ n) = (w * q) ^ n * (D * (w * p)) := by rw [Nat.pow_succ, Nat.mul_pow]; ac_rfl
    have e2 : p ^ (n + 1) * (D * w) = p ^ n * (D * (w * p)) := by rw [Nat.pow_succ]; ac_rfl
    rw [e1, e2]
    exact Nat.mul_lt_mul_of_pos_right (Nat.pow_lt_pow_left hp n0) (Nat.mul_pos D1 (Nat.mul_pos w1 p1))
  have h3 : p ^ l.length * (D * w + hornN l w) ≤ p ^ l.length * (h * w ^ l.length) := Nat.mul_le_mul_left _ r
  have e3 : p ^ l.length * (h * w ^ l.length) = w ^ l.length * (h * p ^ l.length) := by ac_rfl
  rw [e3, Nat.mul_add] at h3
  refine Nat.lt_of_mul_lt_mul_left (a := w ^ l.length) ?_
  rw [Nat.mul_add]
  omega
theorem hom_abs (a : Int) (b : Nat) : ∀ l : List Int, (homZ l a b).natAbs ≤ homN (l.map Int.natAbs) a.natAbs b
  | [] => Nat.le_refl _
  | t :: l => by
    show (a * homZ l a b + t * (b : Int) ^ (l.length + 1)).natAbs ≤ a.natAbs * homN (l.map Int.natAbs) a.natAbs b + t.natAbs * b ^ ((l.map Int.natAbs).length + 1)
    have h1 := Int.natAbs_add_le (a * homZ l a b) (t * (b : Int) ^ (l.length + 1))
    rw [Int.natAbs_mul, Int.natAbs_mul, Int.natAbs_pow, Int.natAbs_natCast] at h1
    have h2 := Nat.mul_le_mul_left a.natAbs (hom_abs a b l)
    rw [List.length_map]
    omega
theorem hom_dvd (a b : Int) : ∀ l : List Int, b ∣ homZ l a b
  | [] => ⟨0, by show (0 : Int) = b * 0; omega⟩
  | t :: l => Int.dvd_add (Int.dvd_mul_of_dvd_right (hom_dvd a b l)) (Int.dvd_mul_of_dvd_right ⟨b ^ l.length, by rw [Int.pow_succ, Int.mul_comm]⟩)
/-- the value at a / b, times b to the degree -/
theorem hom_iv {a b : Int} (hb : b ≠ 0) (c : Int) : ∀ l : List Int, iv (l ++ [c]) ((a : Rat) / b) * (b : Rat) ^ l.length = ((homZ l a b + c * a ^ l.length : Int) : Rat)
  | [] => by
    show iv [c] _ * (b : Rat) ^ 0 = ((0 + c * a ^ 0 : Int) : Rat)
    rw [iv_cons, iv_nil, Int.pow_zero]
    simp
    grind
  | t :: l => by
    have ih := hom_iv (a := a) hb c l
    have hb' : (b : Rat) ≠ 0 := by
      intro z
      exact hb (Rat.intCast_inj.mp (z.trans rfl))
    show iv (t :: (l ++ [c])) _ * (b : Rat) ^ (l.length + 1) = ((a * homZ l a b + t * b ^ (l.length + 1) + c * a ^ (l.length + 1) : Int) : Rat)
    rw [iv_cons]
    have e1 : ((a * homZ l a b + t * b ^ (l.length + 1) + c * a ^ (l.length + 1) : Int) : Rat) = (a : Rat) * ((homZ l a b + c * a ^ l.length : Int) : Rat) + (t : Rat) * (b : Rat) ^ (l.length + 1) := by
      rw [← Rat.intCast_mul, Int.mul_add, Int.pow_succ a, ← Rat.intCast_pow, ← Rat.intCast_mul, ← Rat.intCast_add]
      congr 1
      have : a * (c * a ^ l.length) = c * (a ^ l.length * a) := by
        rw [← Int.mul_assoc, Int.mul_comm a c, Int.mul_assoc, Int.mul_comm a]
      omega
    rw [e1, ← ih, Rat.pow_succ]
    grind
/-! ### how often a prime divides -/
def IsP (p : Nat) : Prop := 2 ≤ p ∧ ∀ d, d ∣ p → d = 1 ∨ d = p
theorem isP_of {p : Nat} (h : p ∈ [2, 3, 5, 7]) : IsP p := by
  simp only [List.mem_cons, List.not_mem_nil, or_false] at h
  rcases h with z | z | z | z <;> (subst z; refine ⟨by decide, fun d hd => ?_⟩; have := Nat.le_of_dvd (by decide) hd; revert hd; revert d; decide)
theorem IsP.mul {p x y : Nat} (h : IsP p) (hx : ¬ p ∣ x) (hy : ¬ p ∣ y) : ¬ p ∣ x * y := fun z => by
  rcases h.2 (Nat.gcd p x) (Nat.gcd_dvd_left p x) with e | e
  · exact hy (Nat.Coprime.dvd_of_dvd_mul_left e z)
  · exact hx (e ▸ Nat.gcd_dvd_right p x)
theorem IsP.pow {p x : Nat} (h : IsP p) (hx : ¬ p ∣ x) : ∀ n, ¬ p ∣ x ^ n
  | 0 => fun z => by
    rw [Nat.pow_zero] at z
    have := Nat.le_of_dvd (by decide) z
    have := h.1
    omega
  | n + 1 => by
    rw [Nat.pow_succ]
    exact h.mul (h.pow hx n) hx
/-- p divides x just m times -/
def Val (p x m : Nat) : Prop := ∃ y, x = p ^ m * y ∧ ¬ p ∣ y
theorem Val.mul {p x y m k : Nat} (h : IsP p) (a : Val p x m) (b : Val p y k) : Val p (x * y) (m + k) := by
  obtain ⟨u, rfl, hu⟩ := a
  obtain ⟨v, rfl, hv⟩ := b
  exact ⟨u * v, by rw [Nat.pow_add]; ac_rfl, h.mul hu hv⟩
theorem Val.le {p x m k : Nat} (h : IsP p) (a : Val p x m) (d : p ^ k ∣ x) : k ≤ m := by
  obtain ⟨y, rfl, hy⟩ := a
  rcases Nat.lt_or_ge m k with z | z
  · exfalso
    obtain ⟨j, rfl⟩ : ∃ j, k = m + (j + 1) := ⟨k - m - 1, by omega⟩
    rw [Nat.pow_add] at d
    have p0 : 0 < p ^ m := Nat.pow_pos (by have := h.1; omega)
    have d2 := Nat.dvd_of_mul_dvd_mul_left p0 d
    exact hy (Nat.dvd_trans ⟨p ^ j, by rw [Nat.pow_succ, Nat.mul_comm]⟩ d2)
  · exact z
/-- denominators fall: v N = u D b^n, p divides b oftener than c -/
theorem fall_val {p : Nat} {a b c : Int} {l : List Int} {u v D e t m : Nat} (h : IsP p) (hl : 2 ≤ l.length) (hc : Val p c.natAbs t) (hb : Val p b.natAbs e) (te : t < e) (ha : ¬ p ∣ a.natAbs) (hv : Val p v m)
    (eq : v * (homZ l a b + c * a ^ l.length).natAbs = u * D * b.natAbs ^ l.length) : e < m := by
  have hN : Val p (homZ l a b + c * a ^ l.length).natAbs t := by
    obtain ⟨c', hc1, hc2⟩ := hc
    obtain ⟨b', hb1, hb2⟩ := hb
    obtain ⟨g, hg⟩ := hom_dvd a b l
    have pb : ((p ^ (t + 1) : Nat) : Int) ∣ b := by
      apply Int.natAbs_dvd_natAbs.mp
      rw [Int.natAbs_natCast, hb1]
      obtain ⟨j, rfl⟩ : ∃ j, e = t + 1 + j := ⟨e - t - 1, by omega⟩
      rw [Nat.pow_add p (t + 1) j]
      exact ⟨p ^ j * b', Nat.mul_assoc _ _ _⟩
    have pt : ((p ^ t : Nat) : Int) ∣ c := by
      apply Int.natAbs_dvd_natAbs.mp
      rw [Int.natAbs_natCast, hc1]
      exact Nat.dvd_mul_right _ _
    obtain ⟨c'', hc''⟩ := pt
    obtain ⟨b'', hb''⟩ := pb
    have e0 : homZ l a b + c * a ^ l.length = ((p ^ t : Nat) : Int) * ((p : Int) * (b'' * g) + c'' * a ^ l.length) := by
      rw [hg]
      have e1 : b * g = ((p ^ t : Nat) : Int) * ((p : Int) * (b'' * g)) := by
        have e2 : b * g = ((p ^ (t + 1) : Nat) : Int) * b'' * g := congrArg (· * g) hb''
        rw [e2, Nat.pow_succ, Int.natCast_mul]
        ac_rfl
      have e3 : c * a ^ l.length = ((p ^ t : Nat) : Int) * (c'' * a ^ l.length) := by
        have : c * a ^ l.length = ((p ^ t : Nat) : Int) * c'' * a ^ l.length := congrArg (· * a ^ l.length) hc''
        rw [this, Int.mul_assoc]
      rw [e1, e3, Int.mul_add]
    refine ⟨((p : Int) * (b'' * g) + c'' * a ^ l.length).natAbs, by rw [e0, Int.natAbs_mul, Int.natAbs_natCast], fun z => ?_⟩
    have z1 : (p : Int) ∣ (p : Int) * (b'' * g) + c'' * a ^ l.length := Int.ofNat_dvd_left.mpr z
    have z2 : (p : Int) ∣ c'' * a ^ l.length := (Int.dvd_add_right (Int.dvd_mul_right _ _)).mp z1
    have z3 : p ∣ (c'' * a ^ l.length).natAbs := Int.ofNat_dvd_left.mp z2
    rw [Int.natAbs_mul, Int.natAbs_pow] at z3
    have c2 : c''.natAbs = c' := by
      have := congrArg Int.natAbs hc''
      rw [Int.natAbs_mul, Int.natAbs_natCast, hc1] at this
      exact (Nat.eq_of_mul_eq_mul_left (Nat.pow_pos (by have := h.1; omega)) this).symm
    rw [c2] at z3
    exact h.mul hc2 (h.pow ha _) z3
  have hm := Val.mul h hv hN
  rw [eq] at hm
  have hd : p ^ (e * l.length) ∣ u * D * b.natAbs ^ l.length := by
    obtain ⟨b', hb1, hb2⟩ := hb
    rw [hb1, Nat.mul_pow, ← Nat.pow_mul]
    exact ⟨u * D * b' ^ l.length, by ac_rfl⟩
  have h1 := hm.le h hd
  have h2 : e * 2 ≤ e * l.length := Nat.mul_le_mul_left _ hl
  omega
end My

set_option Elab.async false
set_option linter.all false
set_option maxRecDepth 100000
set_option maxHeartbeats 4000000
namespace My
open PySem PySem.Spec PyProof.Rows L2
/-! ### repr of data that need not be displays -/
def rpOk : PyData → Bool
  | .int i => decide (i.natAbs.log2 < 1920)
  | .bool _ => true
  | .none => true
  | d => isDisplay d
section
variable {X : Cx}
def rReprA (K : PySem.W.Frag) : List V → Hp → VK → Prop := fun vs H Q => ∃ v d, vs = [v] ∧ Dp K H v d ∧ d.showable = true ∧ d.hasDict = false ∧ d.depth ≤ 60 ∧ d.shown.length ≤ sizeLine ∧ rpOk d = true ∧ Q (.str d.shown) H
theorem cr_reprA (hg : X.A.guards = some []) (hu : X.A.units + 64 < cLine) : CallR X (.builtin "repr") (rReprA X.K) := by
  intro pins s σ H vs us Q I r h
  obtain ⟨v, d, rfl, hd, h1, h2, h3, h4, h5, q⟩ := h
  have old : isDisplay d = true → wpAny (model X.prog X.w) X.A (call (.builtin "repr") us) (EP X pins σ Q) X.xe s := fun h6 => cr_repr hg hu pins s σ H [v] us Q I r ⟨v, d, rfl, hd, h1, h2, h3, h4, h6, q⟩
  cases d with
  | int i =>
    have e := hd.i
    subst e
    obtain ⟨u, rfl, t, rfl⟩ := vals1 r
    exact PySem.P.repr_of_int (of_decide_eq_true h5) ⟨.str _, H, I.tok _, ⟨_, rfl⟩, q⟩
  | bool b =>
    cases hd
    obtain ⟨u, rfl, t⟩ := vals1 r
    cases t
    refine PySem.P.repr_of_bool ⟨.str _, H, I.tok _, ⟨_, rfl⟩, ?_⟩
    cases b <;> exact q
  | none =>
    cases hd
    obtain ⟨u, rfl, t⟩ := vals1 r
    cases t
    exact PySem.P.repr_of_none ⟨.str _, H, I.tok _, ⟨_, rfl⟩, q⟩
  | str x => exact old h5
  | list x => exact old h5
  | tuple x => exact old h5
  | dict x => exact old h5
end
end My

set_option Elab.async false
set_option linter.all false
set_option maxRecDepth 100000
set_option maxHeartbeats 4000000
namespace My
open PySem PySem.Spec PyProof.Rows L2
/-! ### dicts whose keys are tuples of numbers, wherever these tuples stand -/
abbrev XKind (P : Program) (w : World) := tupleKind (mixKind P w)
/-- the dict's object: keys, values, the addresses of the keys -/
def XAt (P : Program) (w : World) (a : Addr) (kvs : List (List Key × V)) (bs : List Addr) (h : Heap) : Prop :=
  (a == sysModules) = false ∧ kvs.length ≤ sizeLine ∧ ∃ xs : List (List Key × Addr × Value), KV kvs (pairsH xs) ∧ (xs.map fun x => x.2.1) = bs ∧
    ∃ o es ep, h.get? a = some o ∧ o.ExactDict ∧ o.data = .dict es ep ∧ es.toList = xs.map (entryOfKey (XKind P w)) ∧ (xs.map (·.1)).Nodup
def dX (P : Program) (w : World) (a : Addr) (kvs : List (List Key × V)) (bs : List Addr) : HO := .ext (XAt P w a kvs bs)
/-- its keys' tuples stand -/
def KX (K : PySem.W.Frag) (H : Hp) (kvs : List (List Key × V)) (bs : List Addr) : Prop := Paired (fun p b => SqT K H b (p.1.map kV)) kvs bs
theorem KX.ext {K : PySem.W.Frag} {H H' : Hp} {kvs : List (List Key × V)} {bs : List Addr} (x : KX K H kvs bs) (e : Same H H') : KX K H' kvs bs := Paired.mapP x fun _ _ y => Evl.ex_t e y
theorem KX.nil {K : PySem.W.Frag} {H : Hp} : KX K H [] [] := Paired.nil
theorem KX.snoc {K : PySem.W.Frag} {H : Hp} {kvs : List (List Key × V)} {bs : List Addr} {k : List Key} {v : V} {b : Addr} (x : KX K H kvs bs) (y : SqT K H b (k.map kV)) : KX K H (kvs ++ [(k, v)]) (bs ++ [b]) := Paired.snoc x y
theorem xAt_obj {P : Program} {w : World} {H : Hp} {h : Heap} {a : Addr} {kvs : List (List Key × V)} {bs : List Addr} (x : XAt P w a kvs bs h) : ObjOk P w H h a (dX P w a kvs bs) := by
  refine ⟨x, ?_, fun h1 h2 y k => ?_⟩
  · obtain ⟨_, _, _, _, _, o, _, _, e, _⟩ := x
    exact ⟨o, e⟩
  · obtain ⟨y1, y2, xs, y3, y4, o, es, ep, e, y5⟩ := y
    exact ⟨y1, y2, xs, y3, y4, o, es, ep, k o e, y5⟩
section
variable {X : Cx} {pins : List (Addr × Obj)} {σ : L2.St} {H : Hp} {s : Shared} {a b : Addr} {kvs : List (List Key × V)} {bs : List Addr} {k : List Key} {v : V} {u r : Value} {A : Around} {E : Value → Shared → Prop}
theorem key_is (I : Inv X pins σ H s) (q : SqT X.K H b (k.map kV)) : (XKind X.prog X.w).is s.heap k b := by
  obtain ⟨us, vu, ⟨ob, g1, g2, m, g3⟩, _⟩ := I.tuple q
  exact ⟨ob, us.toArray, m, g1, g2, g3, by simpa using items_are vu⟩
theorem keys_are (I : Inv X pins σ H s) : ∀ {kvs : List (List Key × V)} {xs : List (List Key × Addr × Value)} {bs : List Addr}, KV kvs (pairsH xs) → (xs.map fun x => x.2.1) = bs → KX X.K H kvs bs → ∀ x ∈ xs, (XKind X.prog X.w).is s.heap x.1 x.2.1
  | _, [], _, _, _, _ => fun x hx => nomatch hx
  | [], _ :: _, _, r, _, _ => nomatch r
  | p :: kvs, y :: xs, bs, r, e, kx => by
    subst e
    cases r with
    | cons r1 r2 =>
    cases kx with
    | cons k1 k2 =>
    intro x hx
    rcases List.mem_cons.mp hx with z | z
    · rw [z]
      have e1 : p.1 = y.1 := r1.1
      rw [← e1]
      exact key_is I k1
    · exact keys_are I r2 rfl k2 x z
theorem x_at (I : Inv X pins σ H s) (e : H a = some (dX X.prog X.w a kvs bs)) (kx : KX X.K H kvs bs) :
    kvs.length ≤ sizeLine ∧ (a == sysModules) = false ∧ ∃ xs, KV kvs (pairsH xs) ∧ (xs.map fun x => x.2.1) = bs ∧ s.heap.DictOfH (XKind X.prog X.w) a xs := by
  obtain ⟨⟨y1, y2, xs, y3, y4, o, es, ep, z1, z2, z3, z4, z5⟩, _⟩ := (show ObjOk X.prog X.w H s.heap a (dX X.prog X.w a kvs bs) from I.hok a _ e)
  exact ⟨y2, y1, xs, y3, y4, o, es, ep, z1, z2, z3, z4, keys_are I y3 y4 kx, z5⟩
theorem x_val {xs : List (List Key × Addr × Value)} (r : KV kvs (pairsH xs)) (k : List Key) : RelO (valV kvs k) ((atKey xs k).map (·.2)) := by
  rw [← valueAt_pairsH]
  exact r.val k
theorem x_addr (xs : List (List Key × Addr × Value)) (k : List Key) (b : Addr) (u : Value) : ((storedH xs k b u).map fun x => x.2.1) = if (atKey xs k).isSome then xs.map (fun x => x.2.1) else xs.map (fun x => x.2.1) ++ [b] := by
  unfold storedH
  split
  · rw [List.map_map]
    refine List.map_congr_left fun x _ => ?_
    show (putAt k u x).2.1 = x.2.1
    unfold putAt
    split <;> rfl
  · rw [List.map_append]
    rfl
end
section
variable {X : Cx}
def rInX (P : Program) (w : World) (K : PySem.W.Frag) (neg : Bool) : R2 := fun x y H Q => ∃ (a b : Addr) (kvs : List (List Key × V)) (bs : List Addr) (k : List Key), y = .ref a ∧ x = .ref b ∧ SqT K H b (k.map kV) ∧ H a = some (dX P w a kvs bs) ∧ KX K H kvs bs ∧
  Q (.bl (if neg then !(valV kvs k).isSome else (valV kvs k).isSome)) H
theorem op_inX {P : Program} {w : World} (hP : X.prog = P) (hw : X.w = w) (hu : X.A.units + 1 < cLine) : OpR X (compareOp .In) (rInX P w X.K false) := by
  subst hP hw
  intro pins s σ H x y v u Q I rx ry h
  obtain ⟨a, b, kvs, bs, k, rfl, rfl, hk, ha, kx, q⟩ := h
  cases rx
  cases ry
  obtain ⟨_, lo, xs, rel, _, dd⟩ := x_at I ha kx
  refine wpAny_in_heap (tupleKind_room_in1 hu) (key_is I hk) lo dd ?_
  have e := (x_val rel k).isSome_eq
  rw [Option.isSome_map] at e
  rw [← e]
  exact ⟨.bl _, H, I.tok _, rfl, q⟩
theorem op_notInX {P : Program} {w : World} (hP : X.prog = P) (hw : X.w = w) (hu : X.A.units + 1 < cLine) : OpR X (compareOp .NotIn) (rInX P w X.K true) := by
  subst hP hw
  intro pins s σ H x y v u Q I rx ry h
  obtain ⟨a, b, kvs, bs, k, rfl, rfl, hk, ha, kx, q⟩ := h
  cases rx
  cases ry
  obtain ⟨_, lo, xs, rel, _, dd⟩ := x_at I ha kx
  refine wpAny_notIn_heap (tupleKind_room_in1 hu) (key_is I hk) lo dd ?_
  have e := (x_val rel k).isSome_eq
  rw [Option.isSome_map] at e
  rw [← e]
  exact ⟨.bl _, H, I.tok _, rfl, q⟩
def rIxX (P : Program) (w : World) (K : PySem.W.Frag) : R2 := fun x y H Q => ∃ (a b : Addr) (kvs : List (List Key × V)) (bs : List Addr) (k : List Key) (v : V), x = .ref a ∧ y = .ref b ∧ SqT K H b (k.map kV) ∧ H a = some (dX P w a kvs bs) ∧ KX K H kvs bs ∧ valV kvs k = some v ∧ Q v H
theorem ix_dX {P : Program} {w : World} (hP : X.prog = P) (hw : X.w = w) (hu : X.A.units + 1 < cLine) : IxR X (rIxX P w X.K) := by
  subst hP hw
  intro value slice pins s σ H x y v u Q I rx ry h hs
  obtain ⟨a, b, kvs, bs, k, z, rfl, rfl, hk, ha, kx, hv, q⟩ := h
  cases rx
  cases ry
  obtain ⟨_, lo, xs, rel, _, dd⟩ := x_at I ha kx
  have e := x_val rel k
  rw [hv] at e
  obtain ⟨w', hw, rw'⟩ := RelO.some_of e
  obtain ⟨p, hp, hp2⟩ := Option.map_eq_some_iff.mp hw
  have fin : ∀ t, EP X pins σ Q w' { s with toks := t } := fun t => ⟨z, H, I.tok _, rw', q⟩
  exact subscriptTail_builtinR (x := w') dd.typeIs PySem.F.slot_dict_getitem.lookup
    (wpAny_getItem_heap (Q := fun r s' => r = w' ∧ EP X pins σ Q r s') (tupleKind_room_in1 hu) (key_is I hk) dd hp ⟨hp2, by rw [hp2]; exact fin _⟩) hs
def rSetX (P : Program) (w : World) (K : PySem.W.Frag) : TSet := fun o i v H Q => ∃ (a b : Addr) (kvs : List (List Key × V)) (bs : List Addr) (k : List Key), o = .ref a ∧ i = .ref b ∧ SqT K H b (k.map kV) ∧ H a = some (dX P w a kvs bs) ∧ KX K H kvs bs ∧ kvs.length < sizeLine ∧
  Q (upd H a (dX P w a (putK kvs k v) (if (valV kvs k).isSome then bs else bs ++ [b])))
theorem set_dX {P : Program} {w : World} (hP : X.prog = P) (hw : X.w = w) (hu : X.A.units + 1 < cLine) : PSet X (rSetX P w X.K) := by
  subst hP hw
  intro pins s σ H o i v ov iv u Q I ro ri rv h
  obtain ⟨a, b, kvs, bs, k, rfl, rfl, hk, ha, kx, hl, q⟩ := h
  cases ro
  cases ri
  obtain ⟨_, lo, xs, rel, eb, dd⟩ := x_at I ha kx
  have lx : xs.length = kvs.length := by rw [← pairsH_length, Paired.length rel]
  refine wpAny_setItem_heap (hsz := by omega) (tupleKind_room_in1 hu) (key_is I hk) dd fun h' dd' hs => ⟨_, ?_, q⟩
  obtain ⟨ob, es, ep, g1, g2, g3, g4, _, g5⟩ := dd'
  refine d_write I (by rw [ha]; exact True.intro) hs ⟨ob, g1⟩ (xAt_obj ⟨lo, ?_, storedH xs k b u, ?_, ?_, ob, es, ep, g1, g2, g3, g4, g5⟩)
  · have := length_putK kvs k v
    omega
  · rw [pairsH_storedH]
    exact rel.put k rv
  · rw [x_addr, eb]
    have e := (x_val rel k).isSome_eq
    rw [Option.isSome_map] at e
    rw [e]
/-- {}, its keys tuples -/
def tDNewX (P : Program) (w : World) : TE := fun _ H Q => ∀ p, H p = none → Q (.ref p) (upd H p (dX P w p [] []))
theorem pe_dnewX {P : Program} {w : World} (hP : X.prog = P) (hw : X.w = w) {pos : Pos} : PE X (.Dict [] [] pos) (tDNewX P w) := by
  subst hP hw
  refine ⟨fun pins s σ H Q I h => wpAny_Dict_empty ?_⟩
  have x0 : XAt X.prog X.w s.heap.objs.size [] [] (s.heap.push { cls := .type "dict", data := .dict #[] }) := by
    refine ⟨beq_eq_false_iff_ne.mpr (Ne.symm (Nat.ne_of_lt I.big)), Nat.zero_le _, [], .nil, rfl, ?_⟩
    refine ⟨_, #[], 0, Heap.get?_push_size _ rfl, ⟨rfl, rfl, rfl⟩, rfl, rfl, List.nodup_nil⟩
  refine ⟨.ref s.heap.objs.size, upd H s.heap.objs.size (dX X.prog X.w s.heap.objs.size [] []), ?_, rfl, h _ (I.hok.fresh (Nat.le_refl _))⟩
  exact I.laid (t' := s.toks) (fun _ _ q => Heap.get?_push_of_some _ q) (Nat.le_refl _) (xAt_obj x0)
def rLenX (P : Program) (w : World) (K : PySem.W.Frag) : List V → Hp → VK → Prop := fun xs H Q => ∃ (a : Addr) (kvs : List (List Key × V)) (bs : List Addr), xs = [V.ref a] ∧ H a = some (dX P w a kvs bs) ∧ KX K H kvs bs ∧ Q (.int (kvs.length : Nat)) H
theorem cr_lenX {P : Program} {w : World} (hP : X.prog = P) (hw : X.w = w) : CallR X (.builtin "len") (rLenX P w X.K) := by
  subst hP hw
  intro pins s σ H xs us Q I r h
  obtain ⟨a, kvs, bs, rfl, ha, kx, q⟩ := h
  obtain ⟨u, rfl, ru⟩ := vals1 r
  cases ru
  obtain ⟨z, lo, xs, rel, _, dd⟩ := x_at I ha kx
  have hm : s.heap.DictKeyed (XKind X.prog X.w) a (pairsH xs) := ⟨xs, dd, rfl⟩
  have ll : kvs.length = (pairsH xs).length := Paired.length rel
  have zz := sizeLine_eq
  refine call_len_slot (n := ((pairsH xs).length : Nat)) dd.typeIs PySem.F.slot_dict_len (fun Q' hq => len_keyed lo hm hq) (by omega) (by omega) ?_
  exact ⟨.int (kvs.length : Nat), H, I.tok _, ⟨_, by rw [ll]⟩, q⟩
def rListX (P : Program) (w : World) (K : PySem.W.Frag) : List V → Hp → VK → Prop := fun xs H Q => ∃ (a : Addr) (kvs : List (List Key × V)) (bs : List Addr), xs = [V.ref a] ∧ H a = some (dX P w a kvs bs) ∧ KX K H kvs bs ∧ ∀ p, H p = none → Q (.ref p) (upd H p (.lst (bs.map V.ref)))
theorem cr_listX {P : Program} {w : World} (hP : X.prog = P) (hw : X.w = w) (hc : X.calm = true) : CallR X (.type "list") (rListX P w X.K) := by
  subst hP hw
  intro pins s σ H xs us Q I r h
  obtain ⟨a, kvs, bs, rfl, ha, kx, q⟩ := h
  obtain ⟨u, rfl, ru⟩ := vals1 r
  cases ru
  obtain ⟨z, lo, xs, rel, eb, ob, es, ep, g1, g2, g3, g4, _⟩ := x_at I ha kx
  have n1 : es.size = xs.length := size_of_entries g4
  have n2 : kvs.length = xs.length := by rw [Paired.length rel, pairsH_length]
  refine PySem.W.kdl_call (kdl_raw lo g2 g3) (I.ok.hd hc) g1 (by omega) fun h' tk out c' kp ho its => ?_
  have eo : out.toList = bs.map Value.ref := by
    rw [← eb, List.map_map]
    apply List.ext_getElem?
    intro j
    rw [List.getElem?_map]
    have lo2 : out.toList.length = xs.length := by rw [Array.length_toList, its.1, n1]
    cases ej : out.toList[j]? with
    | none =>
      rw [List.getElem?_eq_none (by have := List.getElem?_eq_none_iff.mp ej; omega)]
      rfl
    | some y =>
      obtain ⟨en, hen, hy⟩ := its.2 j y (by rw [← Array.getElem?_toList]; exact ej)
      have qe := entry_at g4 j
      rw [hen] at qe
      cases ex : xs[j]? with
      | none => rw [ex] at qe; exact nomatch qe
      | some x =>
        rw [ex] at qe
        rw [hy, Option.some.inj qe]
        rfl
  refine ⟨.ref s.heap.objs.size, _, I.laid (t' := tk) (o := .lst (bs.map V.ref)) kp (Nat.le_refl _) ?_, rfl, q _ (I.hok.fresh (Nat.le_refl _))⟩
  refine ⟨?_, out.toList, c', by rw [eo]; exact vals_refs bs, by rw [Array.toArray_toList]; exact ho⟩
  rw [← eb, List.length_map, List.length_map]
  omega
/-! ### dicts whose keys are numbers -/
def rInI (neg : Bool) : R2 := fun x y H Q => ∃ (a : Addr) (kvs : List (Key × V)) (n : Int), y = .ref a ∧ x = .int n ∧ H a = some (.dK kvs) ∧ Q (.bl (if neg then !(valV kvs (.inl n)).isSome else (valV kvs (.inl n)).isSome)) H
theorem op_inI (hu : X.A.units + 1 < cLine) : OpR X (compareOp .In) (rInI false) := by
  intro pins s σ H x y v u Q I rx ry h
  obtain ⟨a, kvs, n, rfl, rfl, ha, q⟩ := h
  cases ry
  exact d_in hu I (.inl ⟨kvs, .inl n, .inl ha, rfl, rfl⟩) rx fun s3 I3 => ⟨.bl _, H, I3, rfl, q⟩
theorem op_notInI (hu : X.A.units + 1 < cLine) : OpR X (compareOp .NotIn) (rInI true) := by
  intro pins s σ H x y v u Q I rx ry h
  obtain ⟨a, kvs, n, rfl, rfl, ha, q⟩ := h
  cases ry
  exact d_notIn hu I (.inl ⟨kvs, .inl n, .inl ha, rfl, rfl⟩) rx fun s3 I3 => ⟨.bl _, H, I3, rfl, q⟩
def rIxI : R2 := fun x y H Q => ∃ (a : Addr) (kvs : List (Key × V)) (n : Int) (v : V), x = .ref a ∧ y = .int n ∧ H a = some (.dK kvs) ∧ valV kvs (.inl n) = some v ∧ Q v H
def rSetI : TSet := fun o i v H Q => ∃ (a : Addr) (kvs : List (Key × V)) (n : Int), o = .ref a ∧ i = .int n ∧ H a = some (.dK kvs) ∧ kvs.length < sizeLine ∧ Q (upd H a (.dK (putK kvs (.inl n) v)))
theorem set_dI (hu : X.A.units + 1 < cLine) : PSet X rSetI := by
  intro pins s σ H o i v ov iv u Q I ro ri rv h
  obtain ⟨a, kvs, n, rfl, rfl, ha, hl, q⟩ := h
  cases ro
  exact d_setItem hu I (.inl ⟨kvs, .inl n, ha, rfl, hl, rfl⟩) ri rv fun s' I' => ⟨_, I', q⟩
theorem ix_dI (hu : X.A.units + 1 < cLine) : IxR X rIxI := by
  intro value slice pins s σ H x y v u Q I rx ry h hs
  obtain ⟨a, kvs, n, z, rfl, rfl, ha, hv, q⟩ := h
  cases rx
  obtain ⟨_, lo, vs, rel, dd⟩ := dk_of I.hok ha
  have e := rel.val (.inl n)
  rw [hv] at e
  obtain ⟨w', hw, rw'⟩ := RelO.some_of e
  have fin : ∀ t, EP X pins σ Q w' { s with toks := t } := fun t => ⟨z, H, I.tok _, rw', q⟩
  exact subscriptTail_builtinR (x := w') dd.typeIs PySem.F.slot_dict_getitem.lookup
    (wpAny_getItem_of (Q := fun r s' => r = w' ∧ EP X pins σ Q r s') (kV_is (k := .inl n) ry) dd.mapOf hw ⟨rfl, fin _⟩) hs
theorem un65 {k : Nat} {A : Around} (h : Room k A) : A.units + 65 < cLine := by have := h.un; omega
theorem un1 {k : Nat} {A : Around} (h : Room k A) : A.units + 1 < cLine := by have := h.un; omega
end
end My

set_option linter.all false
set_option maxRecDepth 100000
set_option maxHeartbeats 4000000
namespace My
/-! ### walks: a start led on and on -/
section
variable {α : Type}
def itF (f : α → α) : Nat → α → α
  | 0, x => x
  | n + 1, x => f (itF f n x)
theorem itF_add (f : α → α) (x : α) (m : Nat) : ∀ n, itF f (m + n) x = itF f n (itF f m x)
  | 0 => rfl
  | n + 1 => by show f (itF f (m + n) x) = f (itF f n (itF f m x)); rw [itF_add f x m n]
theorem itF_one (f : α → α) (x : α) (n : Nat) : itF f n (f x) = itF f (n + 1) x := by
  have := itF_add f x 1 n
  rw [Nat.add_comm] at this
  exact this.symm
/-- the first n of a walk -/
def wk (f : α → α) (x : α) (n : Nat) : List α := (List.range n).map fun i => itF f i x
theorem wk_len (f : α → α) (x : α) (n : Nat) : (wk f x n).length = n := by unfold wk; simp
theorem wk_snoc (f : α → α) (x : α) (n : Nat) : wk f x (n + 1) = wk f x n ++ [itF f n x] := by unfold wk; rw [List.range_succ]; simp
theorem wk_get (f : α → α) (x : α) {n i : Nat} (h : i < n) : (wk f x n)[i]? = some (itF f i x) := by unfold wk; simp [h]
theorem wk_mem {f : α → α} {x y : α} {n : Nat} : y ∈ wk f x n ↔ ∃ i, i < n ∧ itF f i x = y := by unfold wk; simp [List.mem_map, List.mem_range]
structure IsWalk (f : α → α) (ins : α → Prop) (x : α) (n : Nat) (back : Option Nat) : Prop where
  dist : ∀ i j, i < j → j < n → itF f i x ≠ itF f j x
  inn : ∀ i, i < n → ins (itF f i x)
  fin : match back with
    | none => ¬ ins (itF f n x)
    | some j => j < n ∧ itF f n x = itF f j x
variable {f : α → α} {ins : α → Prop} {x : α} {n m : Nat} {b c : Option Nat}
theorem IsWalk.le (h : IsWalk f ins x n b) (g : IsWalk f ins x m c) : m ≤ n := by
  rcases Nat.lt_or_ge n m with z | z
  · exfalso
    cases b with
    | none => exact h.fin (g.inn n z)
    | some j => exact g.dist j n h.fin.1 z h.fin.2.symm
  · exact z
theorem IsWalk.same (h : IsWalk f ins x n b) (g : IsWalk f ins x m c) : n = m ∧ b = c := by
  have e : n = m := Nat.le_antisymm (g.le h) (h.le g)
  subst e
  refine ⟨rfl, ?_⟩
  cases b with
  | none => cases c with
    | none => rfl
    | some j => exact absurd (g.fin.2 ▸ g.inn j g.fin.1) h.fin
  | some i => cases c with
    | none => exact absurd (h.fin.2 ▸ h.inn i h.fin.1) g.fin
    | some j =>
      rcases Nat.lt_trichotomy i j with z | z | z
      · exact absurd (h.fin.2.symm.trans g.fin.2) (h.dist i j z g.fin.1)
      · rw [z]
      · exact absurd (g.fin.2.symm.trans h.fin.2) (h.dist j i z h.fin.1)
theorem IsWalk.round (h : IsWalk f ins x n (some m)) (k : Nat) : itF f (n + k) x = itF f (m + k) x := by
  rw [itF_add, itF_add, h.fin.2]
theorem IsWalk.nod (h : IsWalk f ins x n b) : (wk f x n).Nodup := by
  unfold wk
  refine List.pairwise_map.mpr ?_
  refine List.Pairwise.imp_of_mem ?_ (List.pairwise_lt_range (n := n))
  intro i j hi hj hij e
  exact h.dist i j hij (List.mem_range.mp hj) e
/-- from a place of the ring -/
theorem IsWalk.turn (h : IsWalk f ins x n (some m)) {k : Nat} (hk : k < n - m) : IsWalk f ins (itF f (m + k) x) (n - m) (some 0) := by
  have hm := h.fin.1
  -- the places behind m + k, for less than n - m
  have pl : ∀ i, i < n - m → ∃ j, m ≤ j ∧ j < n ∧ itF f i (itF f (m + k) x) = itF f j x ∧ (j = m + k + i ∨ j + (n - m) = m + k + i) := fun i hi => by
    rw [← itF_add]
    rcases Nat.lt_or_ge (m + k + i) n with z | z
    · exact ⟨m + k + i, by omega, z, rfl, .inl rfl⟩
    · refine ⟨m + k + i - (n - m), by omega, by omega, ?_, .inr (by omega)⟩
      have e := h.round (m + k + i - n)
      have e1 : n + (m + k + i - n) = m + k + i := by omega
      have e2 : m + (m + k + i - n) = m + k + i - (n - m) := by omega
      rw [e1, e2] at e
      exact e
  refine ⟨fun i j hij hj e => ?_, fun i hi => ?_, by omega, ?_⟩
  · obtain ⟨a, a1, a2, a3, a4⟩ := pl i (by omega)
    obtain ⟨b, b1, b2, b3, b4⟩ := pl j hj
    rw [a3, b3] at e
    rcases Nat.lt_trichotomy a b with z | z | z
    · exact h.dist a b z b2 e
    · omega
    · exact h.dist b a z a2 e.symm
  · obtain ⟨a, _, a2, a3, _⟩ := pl i hi
    rw [a3]
    exact h.inn a a2
  · rw [← itF_add]
    have e := h.round k
    have e1 : m + k + (n - m) = n + k := by omega
    rw [e1, e]
    rfl
theorem IsWalk.turn_wk (h : IsWalk f ins x n (some m)) {k : Nat} (hk : k < n - m) : wk f (itF f (m + k) x) (n - m) = ((wk f x n).drop m).drop k ++ ((wk f x n).drop m).take k := by
  have hm := h.fin.1
  apply List.ext_getElem?
  intro i
  have l1 : (((wk f x n).drop m).drop k).length = n - m - k := by rw [List.length_drop, List.length_drop, wk_len]
  rcases Nat.lt_or_ge i (n - m) with z | z
  · rw [wk_get _ _ z, ← itF_add]
    rcases Nat.lt_or_ge i (n - m - k) with y | y
    · rw [List.getElem?_append_left (by omega), List.getElem?_drop, List.getElem?_drop, wk_get _ _ (by omega)]
      congr 2
      omega
    · rw [List.getElem?_append_right (by omega), l1, List.getElem?_take_of_lt (by omega), List.getElem?_drop, wk_get _ _ (by omega)]
      have e := h.round (m + k + i - n)
      have e1 : n + (m + k + i - n) = m + k + i := by omega
      have e2 : m + (m + k + i - n) = m + (i - (n - m - k)) := by omega
      rw [e1, e2] at e
      rw [e]
  · rw [List.getElem?_eq_none (by rw [wk_len]; exact z), List.getElem?_eq_none]
    rw [List.length_append, l1, List.length_take, List.length_drop, wk_len]
    omega
/-- from the second number on -/
theorem IsWalk.next (h : IsWalk f ins x (n + 1) (some (m + 1))) : IsWalk f ins (f x) n (some m) := by
  refine ⟨fun i j hij hj e => ?_, fun i hi => ?_, ?_⟩
  · rw [itF_one, itF_one] at e
    exact h.dist _ _ (by omega) (by omega) e
  · rw [itF_one]
    exact h.inn _ (by omega)
  · refine ⟨by have := h.fin.1; omega, ?_⟩
    rw [itF_one, itF_one]
    exact h.fin.2
theorem wk_next (f : α → α) (x : α) (n : Nat) : wk f (f x) n = (wk f x (n + 1)).drop 1 := by
  apply List.ext_getElem?
  intro i
  rw [List.getElem?_drop]
  rcases Nat.lt_or_ge i n with z | z
  · rw [wk_get _ _ z, wk_get _ _ (by omega), itF_one, Nat.add_comm]
  · rw [List.getElem?_eq_none (by rw [wk_len]; exact z), List.getElem?_eq_none (by rw [wk_len]; omega)]
end
/-! ### no list without a number twice is longer than where its numbers lie -/
theorem nodup_le : ∀ (M : Nat) (l : List Nat), l.Nodup → (∀ z ∈ l, z < M) → l.length ≤ M
  | 0, [], _, _ => Nat.le_refl _
  | 0, z :: _, _, h => absurd (h z List.mem_cons_self) (Nat.not_lt_zero _)
  | M + 1, l, nd, h => by
    have ih := nodup_le M (l.filter fun z => decide (z ≠ M)) (nd.filter _) fun z hz => by
      obtain ⟨h1, h2⟩ := List.mem_filter.mp hz
      have := h z h1
      have := of_decide_eq_true h2
      omega
    have : l.length ≤ (l.filter fun z => decide (z ≠ M)).length + 1 := by
      clear ih h
      induction l with
      | nil => exact Nat.zero_le _
      | cons y l ih =>
        have nd' := (List.nodup_cons.mp nd)
        by_cases e : y = M
        · subst e
          have : (l.filter fun z => decide (z ≠ y)) = l := List.filter_eq_self.mpr fun z hz => decide_eq_true fun e => nd'.1 (e ▸ hz)
          rw [List.filter_cons_of_neg (by simp), this]
          exact Nat.le_refl _
        · rw [List.filter_cons_of_pos (by simpa using e), List.length_cons, List.length_cons]
          have := ih nd'.2
          omega
    omega
theorem nodup_int {M : Nat} {l : List Int} (nd : l.Nodup) (h : ∀ z ∈ l, z.natAbs ≤ M) : l.length ≤ 2 * M + 1 := by
  have := nodup_le (2 * M + 1) (l.map fun (z : Int) => (z + (M : Int)).toNat) (by
    refine List.pairwise_map.mpr (List.Pairwise.imp_of_mem ?_ nd)
    intro a b ha hb hab e
    have h1 := h a ha
    have h2 := h b hb
    apply hab
    omega) (fun z hz => by
    obtain ⟨y, hy, rfl⟩ := List.mem_map.mp hz
    have := h y hy
    omega)
  rw [List.length_map] at this
  exact this
/-- within the bound b, over divisors of B -/
def insQ (b B : Nat) (x : Int × Int) : Prop := x.1.natAbs ≤ b * x.2.natAbs ∧ 0 < x.2 ∧ x.2 ∣ (B : Int)
instance (b B : Nat) (x : Int × Int) : Decidable (insQ b B x) := inferInstanceAs (Decidable (_ ∧ _ ∧ _))
theorem insQ_room {b B : Nat} (hB : 1 ≤ B) {l : List (Int × Int)} (nd : l.Nodup) (hl : ∀ q ∈ l, Low q) (h : ∀ q ∈ l, insQ b B q) : l.length ≤ 2 * (b * B) + 1 := by
  have key : ∀ q, insQ b B q → ∃ d : Int, (B : Int) = q.2 * d ∧ 0 < d := fun q ⟨_, h2, d, hd⟩ => by
    refine ⟨d, hd, ?_⟩
    have : 0 < q.2 * d := by omega
    rw [Int.mul_comm] at this
    exact Int.pos_of_mul_pos_left this h2
  have := nodup_int (M := b * B) (l := l.map fun q => q.1 * ((B : Int) / q.2)) (by
    refine List.pairwise_map.mpr (List.Pairwise.imp_of_mem ?_ nd)
    intro p q hp hq hpq e
    apply hpq
    obtain ⟨d, hd, d0⟩ := key p (h p hp)
    obtain ⟨c, hc, c0⟩ := key q (h q hq)
    have p0 := (hl p hp).1
    have q0 := (hl q hq).1
    refine low_eq (hl p hp) (hl q hq) ?_
    have e1 : (B : Int) / p.2 = d := by rw [hd, Int.mul_ediv_cancel_left _ (by omega)]
    have e2 : (B : Int) / q.2 = c := by rw [hc, Int.mul_ediv_cancel_left _ (by omega)]
    rw [e1, e2] at e
    have x : p.1 * q.2 = q.1 * p.2 := by
      have a1 : (p.1 * d) * (p.2 * q.2) = (q.1 * c) * (p.2 * q.2) := by rw [e]
      have a2 : (p.1 * d) * (p.2 * q.2) = (B : Int) * (p.1 * q.2) := by rw [hd]; ac_rfl
      have a3 : (q.1 * c) * (p.2 * q.2) = (B : Int) * (q.1 * p.2) := by rw [hc]; ac_rfl
      rw [a2, a3] at a1
      exact Int.eq_of_mul_eq_mul_left (by omega) a1
    unfold val
    have r1 := rat_ne p0
    have r2 := rat_ne q0
    have x' : (p.1 : Rat) * (q.2 : Rat) = (q.1 : Rat) * (p.2 : Rat) := by rw [← Rat.intCast_mul, ← Rat.intCast_mul, x]
    grind) (fun z hz => by
    obtain ⟨q, hq, rfl⟩ := List.mem_map.mp hz
    obtain ⟨d, hd, d0⟩ := key q (h q hq)
    obtain ⟨h1, h2, _⟩ := h q hq
    have e1 : (B : Int) / q.2 = d := by rw [hd, Int.mul_ediv_cancel_left _ (by omega)]
    rw [e1, Int.natAbs_mul]
    have e3 : B = q.2.natAbs * d.natAbs := by
      have := congrArg Int.natAbs hd
      rw [Int.natAbs_mul, Int.natAbs_natCast] at this
      exact this
    rw [e3, ← Nat.mul_assoc]
    exact Nat.mul_le_mul_right _ h1)
  rw [List.length_map] at this
  exact this
theorem IsWalk.room {f : Int × Int → Int × Int} {b B : Nat} {x : Int × Int} {n : Nat} {c : Option Nat} (hB : 1 ≤ B) (h : IsWalk f (insQ b B) x n c) (hf : ∀ i, i < n → Low (itF f i x)) : n ≤ 2 * (b * B) + 1 := by
  have := insQ_room hB h.nod (fun q hq => by obtain ⟨i, hi, rfl⟩ := wk_mem.mp hq; exact hf i hi) (fun q hq => by obtain ⟨i, hi, rfl⟩ := wk_mem.mp hq; exact h.inn i hi)
  rw [wk_len] at this
  exact this
end My

set_option linter.all false
set_option maxRecDepth 100000
set_option maxHeartbeats 4000000
namespace My
/-! ### polynomials of whole numbers, up to multiples of p (as functions) -/
def addL : List Int → List Int → List Int
  | [], m => m
  | l, [] => l
  | a :: l, b :: m => (a + b) :: addL l m
theorem iv_addL (x : Rat) : ∀ l m : List Int, iv (addL l m) x = iv l x + iv m x
  | [], m => by
    show iv m x = 0 + iv m x
    grind
  | a :: l, [] => by
    show iv (a :: l) x = iv (a :: l) x + 0
    grind
  | a :: l, b :: m => by
    show iv ((a + b) :: addL l m) x = _
    rw [iv_cons, iv_cons, iv_cons, iv_addL x l m, Rat.intCast_add]
    grind
theorem iv_smul (x : Rat) (c : Int) : ∀ l : List Int, iv (l.map fun z => c * z) x = (c : Rat) * iv l x
  | [] => by
    show (0 : Rat) = c * 0
    grind
  | a :: l => by
    show iv ((c * a) :: l.map fun z => c * z) x = _
    rw [iv_cons, iv_cons, iv_smul x c l, Rat.intCast_mul]
    grind
theorem iv_mul (l m : List Int) : ∃ d : List Int, ∀ x, iv d x = iv l x * iv m x := by
  cases m with
  | nil => exact ⟨[], fun x => by show (0 : Rat) = iv l x * 0; grind⟩
  | cons b m =>
    refine ⟨mulI l (b :: m) l.length, fun x => ?_⟩
    rw [iv_mulI x l (b :: m) (by simp) l.length (Nat.le_refl _), List.take_length]
/-- f is a polynomial of whole numbers -/
def Pol (f : Rat → Rat) : Prop := ∃ l : List Int, ∀ x, f x = iv l x
theorem Pol.iv (l : List Int) : Pol (My.iv l) := ⟨l, fun _ => rfl⟩
theorem Pol.int (c : Int) : Pol (fun _ => (c : Rat)) := ⟨[c], fun x => by show (c : Rat) = c + x * 0; grind⟩
theorem Pol.add {f g : Rat → Rat} (hf : Pol f) (hg : Pol g) : Pol (fun x => f x + g x) := by
  obtain ⟨l, hl⟩ := hf
  obtain ⟨m, hm⟩ := hg
  exact ⟨addL l m, fun x => by show f x + g x = _; rw [iv_addL, hl, hm]⟩
theorem Pol.mul {f g : Rat → Rat} (hf : Pol f) (hg : Pol g) : Pol (fun x => f x * g x) := by
  obtain ⟨l, hl⟩ := hf
  obtain ⟨m, hm⟩ := hg
  obtain ⟨d, hd⟩ := iv_mul l m
  exact ⟨d, fun x => by show f x * g x = _; rw [hd, hl, hm]⟩
/-- alike up to multiples of p -/
def EqP (p : Int) (f g : Rat → Rat) : Prop := ∃ d : Rat → Rat, Pol d ∧ ∀ x, f x - g x = (p : Rat) * d x
section
variable {p : Int} {f g h k : Rat → Rat}
theorem EqP.refl (f : Rat → Rat) : EqP p f f := ⟨fun _ => ((0 : Int) : Rat), Pol.int 0, fun x => by
  have : ((0 : Int) : Rat) = 0 := rfl
  rw [this]
  grind⟩
theorem EqP.symm (a : EqP p f g) : EqP p g f := by
  obtain ⟨d, pd, e⟩ := a
  refine ⟨fun x => ((-1 : Int) : Rat) * d x, (Pol.int (-1)).mul pd, fun x => ?_⟩
  have := e x
  have m : ((-1 : Int) : Rat) = -1 := rfl
  rw [m]
  grind
theorem EqP.trans (a : EqP p f g) (b : EqP p g h) : EqP p f h := by
  obtain ⟨d, pd, e⟩ := a
  obtain ⟨d', pd', e'⟩ := b
  refine ⟨fun x => d x + d' x, pd.add pd', fun x => ?_⟩
  have := e x
  have := e' x
  grind
theorem EqP.add (a : EqP p f g) (b : EqP p h k) : EqP p (fun x => f x + h x) (fun x => g x + k x) := by
  obtain ⟨d, pd, e⟩ := a
  obtain ⟨d', pd', e'⟩ := b
  refine ⟨fun x => d x + d' x, pd.add pd', fun x => ?_⟩
  have := e x
  have := e' x
  grind
theorem EqP.mulL (a : EqP p f g) (hp : Pol h) : EqP p (fun x => h x * f x) (fun x => h x * g x) := by
  obtain ⟨d, pd, e⟩ := a
  refine ⟨fun x => h x * d x, hp.mul pd, fun x => ?_⟩
  have := e x
  grind
theorem EqP.mul (a : EqP p f g) (b : EqP p h k) (pf : Pol g) (ph : Pol h) : EqP p (fun x => f x * h x) (fun x => g x * k x) := by
  have a1 := a.mulL ph
  have b1 := b.mulL pf
  obtain ⟨d, pd, e⟩ := a1
  obtain ⟨d', pd', e'⟩ := b1
  refine ⟨fun x => d x + d' x, pd.add pd', fun x => ?_⟩
  have := e x
  have := e' x
  grind
/-- what has an inverse may be left out -/
theorem EqP.cancel {D u v : Int} (hu : u * D = 1 + p * v) (pf : Pol f) (pg : Pol g) (a : EqP p (fun x => (D : Rat) * f x) (fun x => (D : Rat) * g x)) : EqP p f g := by
  obtain ⟨d, pd, e⟩ := a
  refine ⟨fun x => (u : Rat) * d x + ((-v : Int) : Rat) * (f x + ((-1 : Int) : Rat) * g x), ((Pol.int u).mul pd).add ((Pol.int (-v)).mul (pf.add ((Pol.int (-1)).mul pg))), fun x => ?_⟩
  have h1 := e x
  have h2 : (u : Rat) * (D : Rat) = 1 + (p : Rat) * (v : Rat) := by
    rw [← Rat.intCast_mul, hu, Rat.intCast_add, Rat.intCast_mul]
    rfl
  have m : ((-1 : Int) : Rat) = -1 := rfl
  have n : ((-v : Int) : Rat) = -(v : Rat) := Rat.intCast_neg v
  rw [m, n]
  have h3 : f x - g x = (u : Rat) * ((D : Rat) * f x - (D : Rat) * g x) - (p : Rat) * (v : Rat) * (f x - g x) := by grind
  rw [h1] at h3
  grind
end
/-- the coefficients are alike too -/
def padI (l : List Int) (n : Nat) : List Int := l ++ List.replicate (n - l.length) 0
theorem iv_nought (x : Rat) : ∀ n, iv (List.replicate n 0) x = 0
  | 0 => rfl
  | n + 1 => by
    show iv (0 :: List.replicate n 0) x = 0
    rw [iv_cons, iv_nought x n]
    have : ((0 : Int) : Rat) = 0 := rfl
    rw [this]
    grind
theorem iv_padI (x : Rat) (n : Nat) : ∀ l : List Int, iv (l ++ List.replicate n 0) x = iv l x
  | [] => iv_nought x n
  | a :: l => by
    show iv (a :: (l ++ List.replicate n 0)) x = _
    rw [iv_cons, iv_cons, iv_padI x n l]
theorem eqP_coef {p : Int} {l m : List Int} (a : EqP p (iv l) (iv m)) (i : Nat) : ∃ d : Int, l.getD i 0 - m.getD i 0 = p * d := by
  obtain ⟨d, ⟨c, hc⟩, e⟩ := a
  -- l and p c + m, filled up to one length
  have lenA : ∀ l m : List Int, (addL l m).length = max l.length m.length := by
    intro l
    induction l with
    | nil => intro m; show m.length = max 0 m.length; omega
    | cons a l ih =>
      intro m
      cases m with
      | nil => show (a :: l).length = max (a :: l).length 0; omega
      | cons b m =>
        show (addL l m).length + 1 = max (l.length + 1) (m.length + 1)
        rw [ih m]
        omega
  have getA : ∀ (l m : List Int) (i : Nat), (addL l m).getD i 0 = l.getD i 0 + m.getD i 0 := by
    intro l
    induction l with
    | nil => intro m i; show m.getD i 0 = ([] : List Int).getD i 0 + m.getD i 0; simp
    | cons a l ih =>
      intro m i
      cases m with
      | nil => show (a :: l).getD i 0 = (a :: l).getD i 0 + ([] : List Int).getD i 0; simp
      | cons b m =>
        cases i with
        | zero => rfl
        | succ i =>
          show (addL l m).getD i 0 = l.getD i 0 + m.getD i 0
          exact ih m i
  have getR : ∀ (n i : Nat), (List.replicate n (0 : Int)).getD i 0 = 0 := fun n i => by
    rw [List.getD_eq_getElem?_getD, List.getElem?_replicate]
    split <;> rfl
  have getP : ∀ (l : List Int) (n i : Nat), (l ++ List.replicate n 0).getD i 0 = l.getD i 0 := fun l n i => by
    rw [List.getD_eq_getElem?_getD, List.getD_eq_getElem?_getD]
    rcases Nat.lt_or_ge i l.length with z | z
    · rw [List.getElem?_append_left z]
    · rw [List.getElem?_append_right z, List.getElem?_eq_none z]
      have := getR n (i - l.length)
      rw [List.getD_eq_getElem?_getD] at this
      rw [this]
      rfl
  have key := iv_inj (s := l ++ List.replicate ((addL m (c.map fun z => p * z)).length) 0) (t := addL m (c.map fun z => p * z) ++ List.replicate l.length 0) (by
    rw [List.length_append, List.length_append, List.length_replicate, List.length_replicate]
    omega) (fun x => by
    rw [iv_padI, iv_padI, iv_addL, iv_smul]
    have := e x
    rw [hc x] at this
    grind)
  have k2 := congrArg (fun z => z.getD i 0) key
  simp only [getP, getA] at k2
  refine ⟨c.getD i 0, ?_⟩
  have k3 : (c.map fun z => p * z).getD i 0 = p * c.getD i 0 := by
    rw [List.getD_eq_getElem?_getD, List.getD_eq_getElem?_getD, List.getElem?_map]
    cases c[i]? with
    | none => show (0 : Int) = p * 0; omega
    | some z => rfl
  rw [k3] at k2
  omega
end My

set_option linter.all false
set_option maxRecDepth 100000
set_option maxHeartbeats 4000000
namespace My
/-- r is the residue of q modulo p -/
def Resid (p : Int) (q : Int × Int) (r : Int) : Prop := ∃ e, r * q.2 - q.1 = p * e
/-- the residues rs of s, whose denominators divide L -/
inductive ResL (p L : Int) : List (Int × Int) → List Int → Prop
  | nil : ResL p L [] []
  | cons {q : Int × Int} {r : Int} {s : List (Int × Int)} {rs : List Int} (h : Resid p q r) (d : q.2 ∣ L) (z : q.2 ≠ 0) (t : ResL p L s rs) : ResL p L (q :: s) (r :: rs)
def topsL (L : Int) (s : List (Int × Int)) : List Int := s.map fun q => q.1 * (L / q.2)
theorem res_one {p L : Int} {q : Int × Int} {r : Int} (h : Resid p q r) (d : q.2 ∣ L) (z : q.2 ≠ 0) : ∃ e, L * r - q.1 * (L / q.2) = p * e := by
  obtain ⟨e, he⟩ := h
  obtain ⟨c, hc⟩ := d
  refine ⟨c * e, ?_⟩
  have e1 : L / q.2 = c := by rw [hc]; exact Int.mul_ediv_cancel_left _ z
  rw [e1, hc]
  have e2 : q.2 * c * r - q.1 * c = c * (r * q.2 - q.1) := by rw [Int.mul_sub]; congr 1 <;> ac_rfl
  rw [e2, he]
  ac_rfl
theorem intP {p a b e : Int} (h : a - b = p * e) : EqP p (fun _ => (a : Rat)) (fun _ => (b : Rat)) := ⟨fun _ => (e : Rat), Pol.int e, fun _ => by rw [← Rat.intCast_sub, h, Rat.intCast_mul]⟩
theorem pol_x : Pol (fun x => x) := ⟨[0, 1], fun x => by
  rw [iv_cons, iv_cons, iv_nil]
  have a : ((0 : Int) : Rat) = 0 := rfl
  have b : ((1 : Int) : Rat) = 1 := rfl
  rw [a, b]
  grind⟩
theorem EqP.of {p : Int} {f f' g g' : Rat → Rat} (a : EqP p f g) (h : ∀ x, f' x = f x) (k : ∀ x, g' x = g x) : EqP p f' g' := by
  obtain ⟨d, pd, e⟩ := a
  exact ⟨d, pd, fun x => by rw [h, k, e]⟩
theorem res_tops {p L : Int} {s : List (Int × Int)} {rs : List Int} (h : ResL p L s rs) : EqP p (fun x => (L : Rat) * iv rs x) (iv (topsL L s)) := by
  induction h with
  | nil => exact (EqP.refl (fun _ => (0 : Rat))).of (fun x => by show (L : Rat) * 0 = 0; grind) (fun x => rfl)
  | @cons q r s rs h d z t ih =>
    obtain ⟨e, he⟩ := res_one h d z
    refine ((intP he).add (ih.mulL pol_x)).of (fun x => ?_) (fun x => ?_)
    · show (L : Rat) * iv (r :: rs) x = ((L * r : Int) : Rat) + x * ((L : Rat) * iv rs x)
      rw [iv_cons, Rat.intCast_mul]
      grind
    · show iv (q.1 * (L / q.2) :: topsL L s) x = _
      rw [iv_cons]
/-- made homogenous -/
def homF (L : Rat) : List Int → Rat → Rat
  | [], _ => 0
  | a :: l, y => (a : Rat) * L ^ l.length + y * homF L l y
theorem homF_iv {L : Rat} (hL : L ≠ 0) (y : Rat) : ∀ (a : Int) (l : List Int), homF L (a :: l) y = L ^ l.length * iv (a :: l) (y / L)
  | a, [] => by
    show (a : Rat) * L ^ 0 + y * 0 = L ^ 0 * ((a : Rat) + y / L * 0)
    grind
  | a, b :: l => by
    show (a : Rat) * L ^ (l.length + 1) + y * homF L (b :: l) y = L ^ (l.length + 1) * iv (a :: b :: l) (y / L)
    rw [homF_iv hL y b l, iv_cons a (b :: l)]
    have : L ^ (l.length + 1) = L ^ l.length * L := Rat.pow_succ L l.length
    rw [this]
    generalize L ^ l.length = c
    generalize iv (b :: l) (y / L) = d
    have : L * (y / L) = y := by grind
    grind
theorem pol_pow (L : Int) (n : Nat) : Pol (fun _ => (L : Rat) ^ n) := by
  induction n with
  | zero => exact ⟨[1], fun x => by
      rw [iv_cons, iv_nil]
      have b : ((1 : Int) : Rat) = 1 := rfl
      rw [b]
      grind⟩
  | succ n ih =>
    obtain ⟨l, hl⟩ := ih.mul (Pol.int L)
    exact ⟨l, fun x => by
      have := hl x
      rw [← this]
      show (L : Rat) ^ (n + 1) = (L : Rat) ^ n * (L : Rat)
      exact Rat.pow_succ _ _⟩
theorem pol_homF (L : Int) {f : Rat → Rat} (pf : Pol f) : ∀ l : List Int, Pol (fun x => homF L l (f x))
  | [] => ⟨[], fun x => rfl⟩
  | a :: l => ((Pol.int a).mul (pol_pow L l.length)).add (pf.mul (pol_homF L pf l))
theorem homF_eqP {p : Int} (L : Int) {f g : Rat → Rat} (pf : Pol f) (pg : Pol g) (h : EqP p f g) : ∀ l : List Int, EqP p (fun x => homF L l (f x)) (fun x => homF L l (g x))
  | [] => EqP.refl _
  | a :: l => (EqP.refl (fun _ => (a : Rat) * (L : Rat) ^ l.length)).add (h.mul (homF_eqP L pf pg h l) pg (pol_homF L pf l))
theorem homF_res {p M : Int} (L : Int) {f : Rat → Rat} (pf : Pol f) {s : List (Int × Int)} {rs : List Int} (h : ResL p M s rs) : EqP p (fun x => (M : Rat) * homF L rs (f x)) (fun x => homF L (topsL M s) (f x)) := by
  induction h with
  | nil => exact (EqP.refl (fun _ => (0 : Rat))).of (fun x => by show (M : Rat) * 0 = 0; grind) (fun x => rfl)
  | @cons q r s rs h d z t ih =>
    obtain ⟨e, he⟩ := res_one h d z
    have el : (topsL M s).length = rs.length := by
      clear ih he d z
      induction t with
      | nil => rfl
      | cons _ _ _ _ ih => show (topsL M _).length + 1 = _ + 1; rw [ih]
    refine (((intP he).mulL (pol_pow L rs.length)).add (ih.mulL pf)).of (fun x => ?_) (fun x => ?_)
    · show (M : Rat) * ((r : Rat) * (L : Rat) ^ rs.length + f x * homF L rs (f x)) = (L : Rat) ^ rs.length * ((M * r : Int) : Rat) + f x * ((M : Rat) * homF L rs (f x))
      rw [Rat.intCast_mul]
      grind
    · show ((q.1 * (M / q.2) : Int) : Rat) * (L : Rat) ^ (topsL M s).length + f x * homF L (topsL M s) (f x) = _
      rw [el]
      grind
end My

set_option linter.all false
set_option maxRecDepth 100000
set_option maxHeartbeats 4000000
namespace My
theorem topsL_ov {D : Int} (hD : 0 < D) : ∀ ns : List Int, topsL D (ov D ns) = ns
  | [] => rfl
  | n :: ns => by
    show (fr n D).1 * (D / (fr n D).2) :: topsL D (ov D ns) = n :: ns
    rw [topsL_ov hD ns]
    congr 1
    have e : gc n D ∣ n := gc_dl n D
    have f : gc n D ∣ D := gc_dr n D
    have g0 := gc_pos (a := n) hD
    obtain ⟨a, ha⟩ := e
    obtain ⟨b, hb⟩ := f
    have b0 : 0 < b := by
      have : 0 < b * gc n D := by rw [Int.mul_comm, ← hb]; exact hD
      exact Int.pos_of_mul_pos_left this g0
    show n / gc n D * (D / (D / gc n D)) = n
    generalize gc n D = g at ha hb g0
    subst ha
    subst hb
    rw [Int.mul_ediv_cancel_left _ (by omega), Int.mul_ediv_cancel_left _ (by omega), Int.mul_ediv_cancel _ (by omega)]
    ac_rfl
theorem ResL.len {p L : Int} {s : List (Int × Int)} {rs : List Int} (h : ResL p L s rs) : rs.length = s.length := by
  induction h with
  | nil => rfl
  | cons _ _ _ _ ih => show _ + 1 = _ + 1; rw [ih]
/-- the residues of a whole are the whole of the residues -/
theorem whole_res {p u v : Int} {s t : List (Int × Int)} (hs : ∀ q ∈ s, 0 < q.2) (sn : s ≠ []) (ht : ∀ q ∈ t, 0 < q.2) (tn : t ≠ []) {sg ta rh R : List Int} (h1 : ResL p (lcmL s) s sg) (h2 : ResL p (lcmL t) t ta)
    (h3 : ResL p ((lcmL t : Int) * (putI (tops s) (lcmL s : Int) (headI t) (restI t)).2) (compQ s t) rh) (hR : EqP p (iv R) (fun x => iv ta (iv sg x))) (hu : u * ((lcmL t : Int) * (putI (tops s) (lcmL s : Int) (headI t) (restI t)).2) = 1 + p * v) : EqP p (iv rh) (iv R) := by
  have hD := compD_pos hs ht (restI t)
  have L0 : (0 : Int) < (lcmL s : Int) := by have := lcmL_pos s hs; omega
  have Lr := rat_ne L0
  -- the whole's tops
  have e1 := res_tops h3
  have eG : topsL ((lcmL t : Int) * (putI (tops s) (lcmL s : Int) (headI t) (restI t)).2) (compQ s t) = (putI (tops s) (lcmL s : Int) (headI t) (restI t)).1 := topsL_ov hD _
  rw [eG] at e1
  refine EqP.cancel hu (Pol.iv rh) (Pol.iv R) (e1.trans ?_)
  -- the other way
  obtain ⟨a, ta', eta⟩ : ∃ a l, ta = a :: l := by
    cases h2 with
    | nil => exact absurd rfl tn
    | cons _ _ _ _ => exact ⟨_, _, rfl⟩
  have tl : ta.length = t.length := h2.len
  have pS : Pol (fun x => ((lcmL s : Int) : Rat) * iv sg x) := (Pol.int (lcmL s : Int)).mul (Pol.iv sg)
  have b1 := homF_res (p := p) (M := (lcmL t : Int)) (lcmL s : Int) pS h2
  have b2 := homF_eqP (p := p) (lcmL s : Int) pS (Pol.iv (tops s)) (res_tops h1) (topsL (lcmL t : Int) t)
  have b3 := b1.trans b2
  refine EqP.symm ?_
  have b4 : EqP p (fun x => (((lcmL t : Int) * (putI (tops s) (lcmL s : Int) (headI t) (restI t)).2 : Int) : Rat) * iv R x) (fun x => (((lcmL t : Int) * (putI (tops s) (lcmL s : Int) (headI t) (restI t)).2 : Int) : Rat) * iv ta (iv sg x)) := hR.mulL (Pol.int _)
  refine b4.trans (b3.of (fun x => ?_) (fun x => ?_))
  · rw [putI_snd, Rat.intCast_mul, Rat.intCast_pow, eta, homF_iv (L := ((lcmL s : Int) : Rat)) Lr]
    have el : (restI t).length = ta'.length := by
      rw [restI_len, ← tl, eta]
      rfl
    rw [el]
    have : ((lcmL s : Int) : Rat) * iv sg x / ((lcmL s : Int) : Rat) = iv sg x := by grind
    rw [this]
    grind
  · have tt : topsL (lcmL t : Int) t = tops t := rfl
    have hv := putI_val (I := tops s) (B := (lcmL s : Int)) (head := headI t) (tops_ne sn) L0 x (restI t)
    have hl : (restI t).reverse ++ [headI t] = tops t := by
      unfold restI
      rw [List.reverse_reverse]
      exact headI_last tn
    rw [hl, putI_snd] at hv
    rw [tt]
    have len : (tops t).length = (restI t).length + 1 := by rw [← hl, List.length_append, List.length_reverse]; rfl
    cases e : tops t with
    | nil => rw [e] at len; cases len
    | cons c l =>
      rw [e] at hv len
      rw [homF_iv Lr, ← hv, Rat.intCast_pow]
      have el : l.length = (restI t).length := Nat.succ.inj len
      rw [el]
      have pn : (((lcmL s : Int) : Rat)) ^ (restI t).length ≠ 0 := by
        intro z
        generalize (restI t).length = n at z
        induction n with
        | zero => rw [Rat.pow_zero] at z; revert z; decide
        | succ n ih =>
          rw [Rat.pow_succ] at z
          exact ih (by
            have : ((lcmL s : Int) : Rat) ^ n = ((lcmL s : Int) : Rat) ^ n * ((lcmL s : Int) : Rat) * (((lcmL s : Int) : Rat))⁻¹ := by grind
            rw [this, z, Rat.zero_mul])
      generalize (((lcmL s : Int) : Rat)) ^ (restI t).length = c0 at pn ⊢
      grind
/-- without noughts at the end -/
def TrimZ (m : List Int) : Prop := m ≠ [] ∧ (m.length ≤ 1 ∨ m.getD (m.length - 1) 0 ≠ 0)
theorem trimZ_eq {m n : List Int} (hm : TrimZ m) (hn : TrimZ n) (h : ∀ i, m.getD i 0 = n.getD i 0) : m = n := by
  have le : ∀ {m n : List Int}, TrimZ m → n ≠ [] → (∀ i, m.getD i 0 = n.getD i 0) → m.length ≤ n.length := fun {m n} hm hn h => by
    rcases hm.2 with z | z
    · have : 0 < n.length := List.length_pos_iff.mpr hn
      omega
    · rcases Nat.lt_or_ge n.length m.length with y | y
      · exfalso
        apply z
        rw [h, List.getD_eq_getElem?_getD, List.getElem?_eq_none (by omega)]
        rfl
      · exact y
  have l1 := le hm hn.1 h
  have l2 := le hn hm.1 fun i => (h i).symm
  apply List.ext_getElem (by omega)
  intro i h1 h2
  have := h i
  rw [List.getD_eq_getElem?_getD, List.getD_eq_getElem?_getD, List.getElem?_eq_getElem h1, List.getElem?_eq_getElem h2] at this
  exact this
/-- residues that are alike are the same -/
theorem res_eq {p : Int} {l m : List Int} (hl : ∀ z ∈ l, 0 ≤ z ∧ z < p) (hm : ∀ z ∈ m, 0 ≤ z ∧ z < p) (p0 : 0 < p) (h : EqP p (iv l) (iv m)) (i : Nat) : l.getD i 0 = m.getD i 0 := by
  obtain ⟨d, e⟩ := eqP_coef h i
  have bd : ∀ {l : List Int}, (∀ z ∈ l, 0 ≤ z ∧ z < p) → 0 ≤ l.getD i 0 ∧ l.getD i 0 < p := fun {l} hl => by
    rw [List.getD_eq_getElem?_getD]
    cases g : l[i]? with
    | none => exact ⟨Int.le_refl _, p0⟩
    | some z => exact hl z (List.mem_of_getElem? g)
  obtain ⟨a1, a2⟩ := bd hl
  obtain ⟨b1, b2⟩ := bd hm
  have d0 : d = 0 := by
    rcases Int.lt_trichotomy d 0 with z | z | z
    · have : p * d ≤ p * (-1) := Int.mul_le_mul_of_nonneg_left (by omega) (by omega)
      omega
    · exact z
    · have : p * 1 ≤ p * d := Int.mul_le_mul_of_nonneg_left (by omega) (by omega)
      omega
  rw [d0] at e
  omega
end My

set_option linter.all false
set_option maxRecDepth 100000
set_option maxHeartbeats 4000000
namespace My
theorem psub_len : ∀ p q : List Rat, (psub p q).length ≤ max p.length q.length
  | [], q => by
    show (q.map fun c => -c).length ≤ _
    rw [List.length_map]
    exact Nat.le_max_right _ _
  | a :: p, [] => by
    show (a :: p).length ≤ _
    exact Nat.le_max_left _ _
  | a :: p, b :: q => by
    show (psub p q).length + 1 ≤ max (p.length + 1) (q.length + 1)
    have := psub_len p q
    omega
/-- a step is known by its numbers at as many spots as it has parts -/
theorem interp {s t : List (Int × Int)} {n : Nat} (ls : ∀ q ∈ s, Low q) (lt : ∀ q ∈ t, Low q) (ts : Tr s) (tt : Tr t) (hs : s.length ≤ n) (ht : t.length ≤ n) {xs : List Rat} (nd : xs.Nodup) (hn : n ≤ xs.length) (h : ∀ x ∈ xs, pval (s.map val) x = pval (t.map val) x) : s = t := by
  refine canon ls lt ts tt fun x => ?_
  have := roots_all n (psub (s.map val) (t.map val)) (by
    have := psub_len (s.map val) (t.map val)
    rw [List.length_map, List.length_map] at this
    omega) xs nd hn (fun a ha => by rw [pval_psub, h a ha]; grind) x
  rw [pval_psub] at this
  grind
end My

set_option Elab.async false
set_option linter.all false
namespace My
/-! ### where two walks meet first -/
section
variable {α β : Type} {f : α → α} {x y : α}
/-- the first place of one walk that the other comes to, and the first place there -/
def Meet (f : α → α) (x y : α) : Option (Nat × Nat) → Prop
  | none => ∀ i j, itF f i x ≠ itF f j y
  | some (i, j) => itF f i x = itF f j y ∧ (∀ i' j', i' < i → itF f i' x ≠ itF f j' y) ∧ ∀ j', j' < j → itF f j' y ≠ itF f i x
theorem Meet.uniq {r s : Option (Nat × Nat)} (h : Meet f x y r) (g : Meet f x y s) : r = s := by
  match r, s with
  | none, none => rfl
  | none, some (i, j) => exact absurd g.1 (h i j)
  | some (i, j), none => exact absurd h.1 (g i j)
  | some (i, j), some (k, l) =>
    obtain ⟨h1, h2, h3⟩ := h
    obtain ⟨g1, g2, g3⟩ := g
    have e : i = k := by
      rcases Nat.lt_trichotomy i k with z | z | z
      · exact absurd h1 (g2 i j z)
      · exact z
      · exact absurd g1 (h2 k l z)
    subst e
    have e : j = l := by
      rcases Nat.lt_trichotomy j l with z | z | z
      · exact absurd h1.symm (g3 j z)
      · exact z
      · exact absurd g1.symm (h3 l z)
    subst e
    rfl
theorem itF_conj {g : β → β} {σ : α → β} (h : ∀ a, σ (f a) = g (σ a)) : ∀ n, itF g n (σ x) = σ (itF f n x)
  | 0 => rfl
  | n + 1 => by
    show g (itF g n (σ x)) = σ (f (itF f n x))
    rw [itF_conj h n, h]
theorem Meet.conj {g : β → β} {σ : α → β} (h : ∀ a, σ (f a) = g (σ a)) (inj : ∀ a b, σ a = σ b → a = b) {r : Option (Nat × Nat)} (m : Meet f x y r) : Meet g (σ x) (σ y) r := by
  match r with
  | none =>
    intro i j e
    rw [itF_conj h, itF_conj h] at e
    exact m i j (inj _ _ e)
  | some (i, j) =>
    obtain ⟨m1, m2, m3⟩ := m
    refine ⟨by rw [itF_conj h, itF_conj h, m1], fun i' j' z e => ?_, fun j' z e => ?_⟩
    · rw [itF_conj h, itF_conj h] at e
      exact m2 i' j' z (inj _ _ e)
    · rw [itF_conj h, itF_conj h] at e
      exact m3 j' z (inj _ _ e)
/-- one turn later -/
theorem Meet.later {r s : Option (Nat × Nat)} (h : Meet f x y r) (g : Meet f (f x) y s) : (r = none ↔ s = none) ∧ ∀ i j, r = some (i + 1, j) → s = some (i, j) := by
  have o := fun n => itF_one f x n
  refine ⟨⟨fun e => ?_, fun e => ?_⟩, fun i j e => ?_⟩
  · subst e
    match s with
    | none => rfl
    | some (i, j) =>
      have := g.1
      rw [o] at this
      exact absurd this (h (i + 1) j)
  · subst e
    match r with
    | none => rfl
    | some (i, j) =>
      refine absurd ?_ (g i (j + 1))
      rw [o]
      show f (itF f i x) = f (itF f j y)
      rw [h.1]
  · subst e
    obtain ⟨h1, h2, h3⟩ := h
    refine Meet.uniq g ⟨by rw [o]; exact h1, fun i' j' z => by rw [o]; exact h2 (i' + 1) j' (by omega), fun j' z => by rw [o]; exact h3 j' z⟩
theorem itF_two : ∀ n, itF (fun a => f (f a)) n x = itF f (2 * n) x
  | 0 => rfl
  | n + 1 => by
    show f (f (itF (fun a => f (f a)) n x)) = itF f (2 * n + 2) x
    rw [itF_two n]
    rfl
theorem itF_both {i j : Nat} (e : itF f i x = itF f j y) : ∀ n, itF f (i + n) x = itF f (j + n) y
  | 0 => e
  | n + 1 => congrArg f (itF_both e n)
/-- two turns at a time -/
theorem Meet.twice {r a b : Option (Nat × Nat)} (h : Meet f x y r) (ga : Meet (fun a => f (f a)) x y a) (gb : Meet (fun a => f (f a)) (f x) y b) : r = none ↔ a = none ∧ b = none := by
  constructor
  · intro e
    subst e
    constructor
    · match a with
      | none => rfl
      | some (i, j) =>
        have := ga.1
        rw [itF_two, itF_two] at this
        exact absurd this (h _ _)
    · match b with
      | none => rfl
      | some (i, j) =>
        have := gb.1
        rw [itF_two, itF_two, itF_one] at this
        exact absurd this (h _ _)
  · rintro ⟨e1, e2⟩
    subst e1 e2
    match r with
    | none => rfl
    | some (i, j) =>
      exfalso
      have key : ∀ i j, j % 2 = 0 → itF f i x = itF f j y → False := fun i j hj e => by
        rcases Nat.mod_two_eq_zero_or_one i with z | z
        · refine ga (i / 2) (j / 2) ?_
          rw [itF_two, itF_two, show 2 * (i / 2) = i by omega, show 2 * (j / 2) = j by omega]
          exact e
        · refine gb (i / 2) (j / 2) ?_
          rw [itF_two, itF_two, itF_one, show 2 * (i / 2) + 1 = i by omega, show 2 * (j / 2) = j by omega]
          exact e
      rcases Nat.mod_two_eq_zero_or_one j with z | z
      · exact key i j z h.1
      · exact key (i + 1) (j + 1) (by omega) (itF_both h.1 1)
theorem least_ex {p : Nat → Prop} : ∀ {n : Nat}, p n → ∃ k, p k ∧ ∀ j, j < k → ¬ p j := by
  intro n
  induction n using Nat.strongRecOn with
  | ind n ih =>
    intro h
    by_cases e : ∃ m, m < n ∧ p m
    · obtain ⟨m, h1, h2⟩ := e
      exact ih m h1 h2
    · exact ⟨n, h, fun j hj hp => e ⟨j, hj, hp⟩⟩
theorem Meet.ex {i j : Nat} (e : itF f i x = itF f j y) : ∃ i0 j0, Meet f x y (some (i0, j0)) := by
  obtain ⟨i0, ⟨j1, e1⟩, h1⟩ := least_ex (p := fun i => ∃ j, itF f i x = itF f j y) ⟨j, e⟩
  obtain ⟨j0, e0, h0⟩ := least_ex (p := fun j => itF f i0 x = itF f j y) e1
  exact ⟨i0, j0, e0, fun i' j' z e => h1 i' z ⟨j', e⟩, fun j' z e => h0 j' z e.symm⟩
/-- the first of one list in another, and where there -/
def FirstM (l m : List α) : Option (Nat × Nat) → Prop
  | none => ∀ a ∈ l, a ∉ m
  | some (i, j) => ∃ a, l[i]? = some a ∧ m[j]? = some a ∧ ∀ i' b, i' < i → l[i']? = some b → b ∉ m
theorem itl_get {n i : Nat} (h : i < n) : ((List.range n).map fun i => itF f i x)[i]? = some (itF f i x) := by
  rw [List.getElem?_map, List.getElem?_range h]
  rfl
theorem itl_len {n : Nat} : ((List.range n).map fun i => itF f i x).length = n := by rw [List.length_map, List.length_range]
theorem meet_of {n k : Nat} {r : Option (Nat × Nat)} (nd : ((List.range k).map fun i => itF f i y).Nodup) (F : FirstM ((List.range n).map fun i => itF f i x) ((List.range k).map fun i => itF f i y) r)
    (hK : ∀ i j, Meet f x y (some (i, j)) → i < n ∧ j < k) : Meet f x y r := by
  match r with
  | none =>
    intro i j e
    obtain ⟨i0, j0, M⟩ := Meet.ex e
    obtain ⟨h1, h2⟩ := hK _ _ M
    refine F _ (List.mem_of_getElem? (itl_get h1)) ?_
    rw [M.1]
    exact List.mem_of_getElem? (itl_get h2)
  | some (i, j) =>
    obtain ⟨a, ha, hb, hf⟩ := F
    have li : i < n := by
      have := (List.getElem?_eq_some_iff.mp ha).1
      rwa [itl_len] at this
    have lj : j < k := by
      have := (List.getElem?_eq_some_iff.mp hb).1
      rwa [itl_len] at this
    rw [itl_get li] at ha
    have hb0 := hb
    rw [itl_get lj] at hb
    have e : itF f i x = itF f j y := by rw [Option.some.inj ha, Option.some.inj hb]
    obtain ⟨i0, j0, M⟩ := Meet.ex e
    obtain ⟨h1, h2⟩ := hK _ _ M
    have ei : i0 = i := by
      rcases Nat.lt_trichotomy i0 i with z | z | z
      · exact absurd (by rw [M.1]; exact List.mem_of_getElem? (itl_get h2)) (hf i0 _ z (itl_get h1))
      · exact z
      · exact absurd e (M.2.1 i j z)
    subst ei
    have ej : j0 = j := by
      have q1 := itl_get (f := f) (x := y) h2
      rw [← M.1, e, ← Option.some.inj hb.symm, ← hb0] at q1
      exact (List.getElem?_inj (by rw [itl_len]; exact h2) nd).mp q1
    subst ej
    exact M
end
/-! ### integers -/
/-- beyond B it grows, and two that come to one there do not both come from beyond -/
structure GrowOk (f : Int → Int) (B : Nat) : Prop where
  gr : ∀ u : Int, B < u.natAbs → u.natAbs < (f u).natAbs
  tw : ∀ p q : Int, B < p.natAbs → B < q.natAbs → f (f p) = f (f q) → f p = f q
variable {f : Int → Int} {B : Nat} {x y : Int}
theorem GrowOk.up (G : GrowOk f B) {k : Nat} (h : B < (itF f k x).natAbs) : ∀ n, B < (itF f (k + n) x).natAbs
  | 0 => h
  | n + 1 => Nat.lt_trans (G.up h n) (G.gr _ (G.up h n))
theorem GrowOk.lt (G : GrowOk f B) {k i j : Nat} (h : B < (itF f k x).natAbs) (hi : k ≤ i) (hj : i < j) : (itF f i x).natAbs < (itF f j x).natAbs := by
  obtain ⟨a, rfl⟩ : ∃ a, i = k + a := ⟨i - k, by omega⟩
  obtain ⟨b, rfl⟩ : ∃ b, j = k + a + 1 + b := ⟨j - (k + a + 1), by omega⟩
  clear hi hj
  induction b with
  | zero => exact G.gr _ (G.up h a)
  | succ b ih =>
    refine Nat.lt_trans ih ?_
    have := G.up h (a + 1 + b)
    rw [← Nat.add_assoc, ← Nat.add_assoc] at this
    exact G.gr _ this
/-- a walk stepped until it comes round or leaves -/
structure Path (f : Int → Int) (B : Nat) (x : Int) (n : Nat) (back : Option Nat) : Prop where
  pos : 1 ≤ n
  nd : ((List.range n).map fun i => itF f i x).Nodup
  out : back = none → B < (itF f (n - 1) x).natAbs ∧ ∀ i, i + 1 < n → (itF f i x).natAbs ≤ B
  round : ∀ p, back = some p → p < n ∧ itF f n x = itF f p x ∧ ∀ i, i < n → (itF f i x).natAbs ≤ B
theorem Path.all {n p : Nat} (h : Path f B x n (some p)) (i : Nat) : ∃ j, j < n ∧ j ≤ i ∧ itF f i x = itF f j x := by
  obtain ⟨h1, h2, _⟩ := h.round p rfl
  induction i using Nat.strongRecOn with
  | ind i ih =>
    by_cases e : i < n
    · exact ⟨i, e, Nat.le_refl _, rfl⟩
    · obtain ⟨d, rfl⟩ : ∃ d, i = n + d := ⟨i - n, by omega⟩
      obtain ⟨j, j1, j2, j3⟩ := ih (p + d) (by omega)
      refine ⟨j, j1, by omega, ?_⟩
      rw [← j3]
      exact itF_both h2 d
theorem Path.within {n p : Nat} (h : Path f B x n (some p)) (i : Nat) : (itF f i x).natAbs ≤ B := by
  obtain ⟨j, j1, _, e⟩ := h.all i
  rw [e]
  exact (h.round p rfl).2.2 j j1
theorem meet_round {n k p q : Nat} {r : Option (Nat × Nat)} (hx : Path f B x n (some p)) (hy : Path f B y k (some q)) (F : FirstM ((List.range n).map fun i => itF f i x) ((List.range k).map fun i => itF f i y) r) : Meet f x y r := by
  refine meet_of hy.nd F fun i j M => ⟨?_, ?_⟩
  · obtain ⟨i', h1, h2, e⟩ := hx.all i
    by_cases z : i' < i
    · exact absurd (by rw [← e]; exact M.1) (M.2.1 i' j z)
    · omega
  · obtain ⟨j', h1, h2, e⟩ := hy.all j
    by_cases z : j' < j
    · exact absurd (by rw [← e]; exact M.1.symm) (M.2.2 j' z)
    · omega
theorem Path.far (G : GrowOk f B) {n : Nat} (h : Path f B x n none) {i : Nat} (hi : n - 1 ≤ i) : B < (itF f i x).natAbs := by
  obtain ⟨d, rfl⟩ : ∃ d, i = n - 1 + d := ⟨i - (n - 1), by omega⟩
  exact G.up (h.out rfl).1 d
/-- one comes round, the other leaves -/
theorem meet_apart (G : GrowOk f B) {n k p : Nat} (hx : Path f B x n none) (hy : Path f B y k (some p)) : Meet f x y none ∧ Meet f y x none := by
  have key : ∀ i j, itF f i x ≠ itF f j y := fun i j e => by
    have a := hx.far G (i := i + n) (by omega)
    rw [itF_both e n] at a
    have := hy.within (j + n)
    omega
  exact ⟨key, fun i j e => key j i e.symm⟩
/-- both leave: stepped on to the greater of the two numbers behind the leaving ones -/
theorem meet_out (G : GrowOk f B) {n k n' k' : Nat} {r : Option (Nat × Nat)} (hx : Path f B x n none) (hy : Path f B y k none) (hn : n + 1 ≤ n') (hk : k + 1 ≤ k')
    (xx : (itF f n x).natAbs ≤ (itF f (n' - 1) x).natAbs) (yx : (itF f k y).natAbs ≤ (itF f (n' - 1) x).natAbs) (xy : (itF f n x).natAbs ≤ (itF f (k' - 1) y).natAbs) (yy : (itF f k y).natAbs ≤ (itF f (k' - 1) y).natAbs)
    (nd : ((List.range k').map fun i => itF f i y).Nodup) (F : FirstM ((List.range n').map fun i => itF f i x) ((List.range k').map fun i => itF f i y) r) : Meet f x y r := by
  have nx := hx.pos
  have ny := hy.pos
  obtain ⟨ox, sx⟩ := hx.out rfl
  obtain ⟨oy, sy⟩ := hy.out rfl
  refine meet_of nd F fun i j M => ?_
  have e := M.1
  have both : ¬ (n + 1 ≤ i ∧ k + 1 ≤ j) := fun ⟨hi, hj⟩ => by
    obtain ⟨a, rfl⟩ : ∃ a, i = a + 2 := ⟨i - 2, by omega⟩
    obtain ⟨b, rfl⟩ : ∃ b, j = b + 2 := ⟨j - 2, by omega⟩
    have := G.tw (itF f a x) (itF f b y) (hx.far G (by omega)) (hy.far G (by omega)) e
    exact M.2.1 (a + 1) (b + 1) (by omega) this
  constructor
  · by_cases c : i < n'
    · exact c
    · exfalso
      have big := hx.far G (i := i) (by omega)
      have hj : ¬ j + 1 < k := fun z => by
        have := sy j z
        rw [← e] at this
        omega
      have hj2 : j ≤ k := by
        by_cases z : k + 1 ≤ j
        · exact absurd ⟨by omega, z⟩ both
        · omega
      have le : (itF f j y).natAbs ≤ (itF f k y).natAbs := by
        by_cases z : j = k
        · rw [z]; exact Nat.le_refl _
        · exact Nat.le_of_lt (G.lt oy (by omega) (by omega))
      have lt := G.lt (x := x) ox (i := n' - 1) (j := i) (by omega) (by omega)
      rw [e] at lt
      omega
  · by_cases c : j < k'
    · exact c
    · exfalso
      have big := hy.far G (i := j) (by omega)
      have hi : ¬ i + 1 < n := fun z => by
        have := sx i z
        rw [e] at this
        omega
      have hi2 : i ≤ n := by
        by_cases z : n + 1 ≤ i
        · exact absurd ⟨z, by omega⟩ both
        · omega
      have le : (itF f i x).natAbs ≤ (itF f n x).natAbs := by
        by_cases z : i = n
        · rw [z]; exact Nat.le_refl _
        · exact Nat.le_of_lt (G.lt ox (by omega) (by omega))
      have lt := G.lt (x := y) oy (i := k' - 1) (j := j) (by omega) (by omega)
      rw [← e] at lt
      omega
/-- all numbers of a walk that leaves are apart -/
theorem Path.nodup (G : GrowOk f B) {n : Nat} (h : Path f B x n none) (m : Nat) : ((List.range m).map fun i => itF f i x).Nodup := by
  obtain ⟨o, s⟩ := h.out rfl
  have np := h.pos
  have key : ∀ i j, i < j → itF f i x ≠ itF f j x := fun i j hij e => by
    by_cases hj : j < n
    · have hi : i < n := by omega
      have q1 := itl_get (f := f) (x := x) hi
      have q2 := itl_get (f := f) (x := x) hj
      rw [e, ← q2] at q1
      have := (List.getElem?_inj (by rw [itl_len]; exact hi) h.nd).mp q1
      omega
    · by_cases hi : i + 1 < n
      · have a := s i hi
        have b := h.far G (i := j) (by omega)
        rw [← e] at b
        omega
      · have := G.lt (x := x) o (i := i) (j := j) (by omega) hij
        rw [e] at this
        omega
  refine List.pairwise_map.mpr ((List.pairwise_lt_range (n := m)).imp fun {a b} hab => key a b hab)
end My

set_option Elab.async false
set_option linter.all false
namespace My
/-! ### a polynomial of whole numbers grows on either side -/
/-- beyond B its tails, without their heads, stay below the head's power -/
def Below (l : List Int) (h B : Nat) : Prop := ∀ t : Nat, B ≤ t → hornN (l.map Int.natAbs) t < h * t ^ l.length
theorem Below.tail {a : Int} {l : List Int} {h B : Nat} (hB : 1 ≤ B) (H : Below (a :: l) h B) : Below l h B := fun t ht => by
  have := H t ht
  have e : hornN ((a :: l).map Int.natAbs) t = hornN (l.map Int.natAbs) t * t + a.natAbs := rfl
  rw [e, List.length_cons, Nat.pow_succ, ← Nat.mul_assoc] at this
  exact Nat.lt_of_mul_lt_mul_right (Nat.lt_of_le_of_lt (Nat.le_add_right _ _) this)
theorem horn_abs (x : Int) : ∀ l : List Int, (hornZ l x).natAbs ≤ hornN (l.map Int.natAbs) x.natAbs
  | [] => Nat.le_refl _
  | t :: l => by
    show (hornZ l x * x + t).natAbs ≤ hornN (l.map Int.natAbs) x.natAbs * x.natAbs + t.natAbs
    have h1 := Int.natAbs_add_le (hornZ l x * x) t
    rw [Int.natAbs_mul] at h1
    have := Nat.mul_le_mul_right x.natAbs (horn_abs x l)
    omega
theorem Below.pos {l : List Int} {h B t : Nat} (H : Below l h B) (ht : B ≤ t) : 0 < hornZ (l ++ [(h : Int)]) t := by
  have a := horn_abs (t : Int) l
  rw [Int.natAbs_natCast] at a
  have b := H t ht
  have e : hornZ [(h : Int)] (t : Int) = h := by show (0 : Int) * t + h = h; omega
  rw [hornZ_app, e]
  have c : (t : Int) ^ l.length * (h : Int) = ((h * t ^ l.length : Nat) : Int) := by rw [Int.natCast_mul, Int.natCast_pow, Int.mul_comm]
  rw [c]
  omega
theorem Below.mono {h B u v : Nat} (hB : 1 ≤ B) (hu : B ≤ u) (huv : u < v) : ∀ {l : List Int}, Below l h B → (l ≠ [] → hornZ (l ++ [(h : Int)]) u < hornZ (l ++ [(h : Int)]) v) ∧ hornZ (l ++ [(h : Int)]) u ≤ hornZ (l ++ [(h : Int)]) v
  | [], _ => ⟨fun z => absurd rfl z, by show (0 : Int) * u + h ≤ 0 * v + h; omega⟩
  | a :: l, H => by
    have T := H.tail hB
    have p := T.pos hu
    have m := (Below.mono hB hu huv T).2
    have lt : hornZ (l ++ [(h : Int)]) u * u + a < hornZ (l ++ [(h : Int)]) v * v + a := by
      have h1 : hornZ (l ++ [(h : Int)]) u * u < hornZ (l ++ [(h : Int)]) u * v := Int.mul_lt_mul_of_pos_left (by omega) p
      have h2 : hornZ (l ++ [(h : Int)]) u * v ≤ hornZ (l ++ [(h : Int)]) v * v := Int.mul_le_mul_of_nonneg_right m (by omega)
      omega
    exact ⟨fun _ => lt, Int.le_of_lt lt⟩
/-- the coefficients seen from the other side -/
def twist (s : Int) : List Int → List Int
  | [] => []
  | a :: l => a :: (twist s l).map fun z => s * z
theorem hornZ_smul (s x : Int) : ∀ l : List Int, hornZ (l.map fun z => s * z) x = s * hornZ l x
  | [] => (Int.mul_zero s).symm
  | a :: l => by
    show hornZ (l.map fun z => s * z) x * x + s * a = s * (hornZ l x * x + a)
    rw [hornZ_smul s x l, Int.mul_add, Int.mul_assoc]
theorem hornZ_twist (s x : Int) : ∀ l : List Int, hornZ (twist s l) x = hornZ l (s * x)
  | [] => rfl
  | a :: l => by
    show hornZ ((twist s l).map fun z => s * z) x * x + a = hornZ l (s * x) * (s * x) + a
    rw [hornZ_smul, hornZ_twist s x l]
    congr 1
    rw [Int.mul_comm s (hornZ l (s * x)), Int.mul_assoc]
theorem twist_abs {s : Int} (hs : s.natAbs = 1) : ∀ l : List Int, (twist s l).map Int.natAbs = l.map Int.natAbs
  | [] => rfl
  | a :: l => by
    show a.natAbs :: (((twist s l).map fun z => s * z).map Int.natAbs) = a.natAbs :: l.map Int.natAbs
    rw [← twist_abs hs l, List.map_map]
    congr 1
    refine List.map_congr_left fun z _ => ?_
    show (s * z).natAbs = z.natAbs
    rw [Int.natAbs_mul, hs, Nat.one_mul]
theorem abs_split {a l : List Int} {c : Int} (h : a.map Int.natAbs = (l ++ [c]).map Int.natAbs) : ∃ (m : List Int) (d : Int), a = m ++ [d] ∧ m.map Int.natAbs = l.map Int.natAbs ∧ d.natAbs = c.natAbs := by
  rw [List.map_append] at h
  obtain ⟨m, n, rfl, h1, h2⟩ := List.map_eq_append_iff.mp h
  obtain ⟨d, rfl⟩ : ∃ d, n = [d] := by
    have := congrArg List.length h2
    rw [List.length_map] at this
    exact List.length_eq_one_iff.mp this
  exact ⟨m, d, rfl, h1, by simpa using h2⟩
/-- on one side: of one sign, and growing -/
def SideOk (f : Int → Int) (B : Nat) (s σ : Int) : Prop := ∀ u : Nat, B ≤ u → 0 < σ * f (s * u) ∧ ∀ v : Nat, u < v → σ * f (s * u) < σ * f (s * v)
theorem side_ok {l : List Int} {c : Int} {B : Nat} (hl : 1 ≤ l.length) (hc : c ≠ 0) (hB : 1 ≤ B) (H : Below l c.natAbs B) {s : Int} (hs : s.natAbs = 1) : ∃ σ, SideOk (hornZ (l ++ [c])) B s σ := by
  obtain ⟨m, d, e, hm, hd⟩ := abs_split (twist_abs hs (l ++ [c]))
  have f1 : ∀ x : Int, hornZ (l ++ [c]) (s * x) = hornZ (m ++ [d]) x := fun x => by rw [← e, hornZ_twist]
  obtain ⟨σ, hσ, hdσ⟩ : ∃ σ : Int, σ.natAbs = 1 ∧ σ * d = (c.natAbs : Int) := by
    rcases Int.lt_or_lt_of_ne (show d ≠ 0 by omega) with z | z
    · exact ⟨-1, rfl, by omega⟩
    · exact ⟨1, rfl, by omega⟩
  have f2 : ∀ x : Int, σ * hornZ (m ++ [d]) x = hornZ ((m.map fun z => σ * z) ++ [(c.natAbs : Int)]) x := fun x => by
    rw [← hornZ_smul, List.map_append]
    show hornZ ((m.map fun z => σ * z) ++ [σ * d]) x = _
    rw [hdσ]
  have ea : (m.map fun z => σ * z).map Int.natAbs = l.map Int.natAbs := by
    rw [← hm, List.map_map]
    refine List.map_congr_left fun z _ => ?_
    show (σ * z).natAbs = z.natAbs
    rw [Int.natAbs_mul, hσ, Nat.one_mul]
  have len : (m.map fun z => σ * z).length = l.length := by
    have := congrArg List.length ea
    simpa using this
  have H2 : Below (m.map fun z => σ * z) c.natAbs B := fun t ht => by
    rw [ea, len]
    exact H t ht
  refine ⟨σ, fun u hu => ⟨?_, fun v hv => ?_⟩⟩
  · rw [f1, f2]
    exact H2.pos hu
  · rw [f1, f1, f2, f2]
    exact (Below.mono hB hu hv H2).1 fun z => by rw [z] at len; simp at len; omega
theorem side_of (x : Int) : ∃ s : Int, s.natAbs = 1 ∧ x = s * (x.natAbs : Nat) ∧ (s = 1 ∨ s = -1) := by
  rcases Int.lt_or_le x 0 with z | z
  · exact ⟨-1, rfl, by omega, .inr rfl⟩
  · exact ⟨1, rfl, by omega, .inl rfl⟩
theorem sign_eq {σ τ z : Int} (hσ : 0 < σ * z) (hτ : 0 < τ * z) : 0 < σ * τ := by
  have := Int.mul_pos hσ hτ
  have e : σ * z * (τ * z) = (σ * τ) * (z * z) := by ac_rfl
  rw [e] at this
  have zz : 0 ≤ z * z := by
    have := Int.natAbs_mul_self (a := z)
    omega
  rcases Int.lt_trichotomy 0 (σ * τ) with q | q | q
  · exact q
  · rw [← q, Int.zero_mul] at this; omega
  · have := Int.mul_le_mul_of_nonneg_right (Int.le_of_lt q) zz
    rw [Int.zero_mul] at this
    omega
theorem grow_of {f : Int → Int} {B : Nat} {σ τ : Int} (h1 : SideOk f B 1 σ) (h2 : SideOk f B (-1) τ) (gr : ∀ u : Int, B < u.natAbs → u.natAbs < (f u).natAbs) : GrowOk f B := by
  refine ⟨gr, fun p q hp hq e => ?_⟩
  have hu := Nat.lt_trans hp (gr p hp)
  have hv := Nat.lt_trans hq (gr q hq)
  -- on one side only one number comes to a given one
  have one : ∀ {s ρ : Int}, SideOk f B s ρ → ∀ a b : Nat, B ≤ a → B ≤ b → f (s * a) = f (s * b) → a = b := fun {s ρ} S a b ha hb e => by
    rcases Nat.lt_trichotomy a b with z | z | z
    · have := (S a ha).2 b z
      rw [e] at this
      omega
    · exact z
    · have := (S b hb).2 a z
      rw [e] at this
      omega
  have sg : ∀ x : Int, B < x.natAbs → (0 < x ∧ 0 < σ * f x) ∨ (x < 0 ∧ 0 < τ * f x) := fun x hx => by
    rcases Int.lt_trichotomy 0 x with z | z | z
    · have := (h1 x.natAbs (Nat.le_of_lt hx)).1
      rw [show (1 : Int) * (x.natAbs : Nat) = x by omega] at this
      exact .inl ⟨z, this⟩
    · omega
    · have := (h2 x.natAbs (Nat.le_of_lt hx)).1
      rw [show (-1 : Int) * (x.natAbs : Nat) = x by omega] at this
      exact .inr ⟨z, this⟩
  have pos : ∀ x y : Int, 0 < x → 0 < y → B < x.natAbs → B < y.natAbs → f x = f y → x = y := fun x y hx hy bx yb e => by
    have := one h1 x.natAbs y.natAbs (Nat.le_of_lt bx) (Nat.le_of_lt yb) (by rw [show (1 : Int) * (x.natAbs : Nat) = x by omega, show (1 : Int) * (y.natAbs : Nat) = y by omega]; exact e)
    omega
  have neg : ∀ x y : Int, x < 0 → y < 0 → B < x.natAbs → B < y.natAbs → f x = f y → x = y := fun x y hx hy bx yb e => by
    have := one h2 x.natAbs y.natAbs (Nat.le_of_lt bx) (Nat.le_of_lt yb) (by rw [show (-1 : Int) * (x.natAbs : Nat) = x by omega, show (-1 : Int) * (y.natAbs : Nat) = y by omega]; exact e)
    omega
  -- from unlike sides: both sides have one sign, so what comes from beyond is on one side
  have mixed : ∀ x y : Int, 0 < x → y < 0 → B < x.natAbs → B < y.natAbs → (∃ a : Int, B < a.natAbs ∧ f a = x) → (∃ b : Int, B < b.natAbs ∧ f b = y) → f x = f y → False := fun x y hx hy bx yb ⟨a, ha, ea⟩ ⟨b, hb, eb⟩ e => by
    have s1 : 0 < σ * f x := by rcases sg x bx with z | z <;> omega
    have s2 : 0 < τ * f x := by rw [e]; rcases sg y yb with z | z <;> omega
    have st := sign_eq s1 s2
    have ax : 0 < σ * x ∨ 0 < τ * x := by
      rcases sg a ha with z | z
      · rw [ea] at z; exact .inl z.2
      · rw [ea] at z; exact .inr z.2
    have byy : 0 < σ * y ∨ 0 < τ * y := by
      rcases sg b hb with z | z
      · rw [eb] at z; exact .inl z.2
      · rw [eb] at z; exact .inr z.2
    have sp : ∀ ρ z : Int, 0 < z → 0 < ρ * z → 0 < ρ := fun ρ z hz h => Int.pos_of_mul_pos_left h hz
    have sn : ∀ ρ z : Int, z < 0 → 0 < ρ * z → ρ < 0 := fun ρ z hz h => by
      rcases Int.lt_or_le ρ 0 with w | w
      · exact w
      · have := Int.mul_le_mul_of_nonneg_left (Int.le_of_lt hz) w
        rw [Int.mul_zero] at this
        omega
    have both : (0 < σ ↔ 0 < τ) := by
      constructor
      · intro w; exact Int.pos_of_mul_pos_right st w
      · intro w; exact Int.pos_of_mul_pos_left st w
    have p1 : 0 < σ := by
      rcases ax with z | z
      · exact sp _ _ hx z
      · exact both.mpr (sp _ _ hx z)
    have p2 := both.mp p1
    rcases byy with z | z
    · have := sn _ _ hy z; omega
    · have := sn _ _ hy z; omega
  rcases sg (f p) hu with ⟨z, _⟩ | ⟨z, _⟩ <;> rcases sg (f q) hv with ⟨w, _⟩ | ⟨w, _⟩
  · exact pos _ _ z w hu hv e
  · exact (mixed _ _ z w hu hv ⟨p, hp, rfl⟩ ⟨q, hq, rfl⟩ e).elim
  · exact (mixed _ _ w z hv hu ⟨q, hq, rfl⟩ ⟨p, hp, rfl⟩ e.symm).elim
  · exact neg _ _ z w hu hv e
theorem grow_horn {l : List Int} {c : Int} {B : Nat} (hl : 2 ≤ l.length) (hc : c ≠ 0) (hB : 1 ≤ B) (r : Reach (l.map Int.natAbs) c.natAbs 1 B) (gr : ∀ u : Int, B < u.natAbs → u.natAbs < (hornZ (l ++ [c]) u).natAbs) : GrowOk (hornZ (l ++ [c])) B := by
  have H : Below l c.natAbs B := fun t ht => by
    have := reach_up hB ht (by rw [List.length_map]; omega) r
    unfold Reach at this
    rw [List.length_map] at this
    omega
  obtain ⟨σ, h1⟩ := side_ok (by omega) hc hB H (s := 1) rfl
  obtain ⟨τ, h2⟩ := side_ok (by omega) hc hB H (s := -1) rfl
  exact grow_of h1 h2 gr
end My

set_option Elab.async false
set_option linter.all false
namespace My
theorem negN_abs (l : List Nat) : (l.map fun (z : Nat) => -(z : Int)).map Int.natAbs = l := by
  rw [List.map_map]
  refine (List.map_congr_left fun z _ => ?_).trans (List.map_id l)
  show (-(z : Int)).natAbs = z
  omega
theorem hornZ_negN (t : Nat) : ∀ l : List Nat, hornZ (l.map fun (z : Nat) => -(z : Int)) t = -(hornN l t : Nat)
  | [] => rfl
  | a :: l => by
    show hornZ (l.map fun (z : Nat) => -(z : Int)) t * t + -(a : Int) = -((hornN l t * t + a : Nat) : Int)
    rw [hornZ_negN t l]
    push_cast
    rw [Int.neg_mul]
    omega
/-- beyond the bound the head takes twice as much as it needs -/
theorem twice_nat {rest : List Nat} {h B t : Nat} (hl : 2 ≤ rest.length) (hB : 1 ≤ B) (r : Reach rest h 1 B) (ht : B < t) : 2 * t + hornN rest t ≤ h * t ^ rest.length := by
  obtain ⟨r0, l, rfl⟩ : ∃ r0 l, rest = r0 :: l := by
    cases rest with
    | nil => simp at hl
    | cons a l => exact ⟨a, l, rfl⟩
  have H : Below ((r0 :: l).map fun (z : Nat) => -(z : Int)) h B := fun u hu => by
    have := reach_up hB hu (by omega) r
    unfold Reach at this
    rw [negN_abs, List.length_map]
    omega
  have T : Below (l.map fun (z : Nat) => -(z : Int)) h B := Below.tail hB H
  have p := T.pos (Nat.le_refl B)
  have m := (Below.mono hB (Nat.le_refl B) ht T).1 fun z => by rw [List.map_eq_nil_iff] at z; rw [z] at hl; simp at hl
  have v : ∀ u : Nat, hornZ (((r0 :: l).map fun (z : Nat) => -(z : Int)) ++ [(h : Int)]) u = ((h * u ^ (r0 :: l).length : Nat) : Int) - (hornN (r0 :: l) u : Nat) := fun u => by
    rw [hornZ_app, hornZ_negN, List.length_map]
    have e : hornZ [(h : Int)] (u : Int) = h := by show (0 : Int) * u + h = h; omega
    rw [e, Int.natCast_mul, Int.natCast_pow, Int.mul_comm]
    omega
  have w : ∀ u : Nat, hornZ (((r0 :: l).map fun (z : Nat) => -(z : Int)) ++ [(h : Int)]) u = hornZ ((l.map fun (z : Nat) => -(z : Int)) ++ [(h : Int)]) u * u + -(r0 : Int) := fun u => rfl
  have vB := v B
  have vt := v t
  rw [w] at vB vt
  unfold Reach at r
  generalize hornZ ((l.map fun (z : Nat) => -(z : Int)) ++ [(h : Int)]) (B : Nat) = g at p m vB
  generalize hornZ ((l.map fun (z : Nat) => -(z : Int)) ++ [(h : Int)]) (t : Nat) = g' at m vt
  have h1 : (g + 1) * t ≤ g' * t := Int.mul_le_mul_of_nonneg_right (by omega) (by omega)
  have h2 : (1 : Int) * ((t : Int) - B) ≤ g * ((t : Int) - B) := Int.mul_le_mul_of_nonneg_right (by omega) (by omega)
  rw [Int.one_mul, Int.mul_sub] at h2
  rw [Int.add_mul] at h1
  omega
theorem twice_horn {l : List Int} {c : Int} {B : Nat} (hl : 2 ≤ l.length) (hB : 1 ≤ B) (r : Reach (l.map Int.natAbs) c.natAbs 1 B) (u : Int) (hu : B < u.natAbs) : 2 * u.natAbs ≤ (hornZ (l ++ [c]) u).natAbs := by
  have a := horn_abs u l
  have b := twice_nat (by rw [List.length_map]; exact hl) hB r hu
  rw [List.length_map] at b
  have e : hornZ [c] u = c := by show (0 : Int) * u + c = c; omega
  rw [hornZ_app, e]
  have d : (u ^ l.length * c).natAbs = c.natAbs * u.natAbs ^ l.length := by rw [Int.natAbs_mul, Int.natAbs_pow, Nat.mul_comm]
  omega
/-- all that a walk beyond the bound needs -/
theorem grow_all {l : List Int} {c : Int} {B : Nat} (hl : 2 ≤ l.length) (hc : c ≠ 0) (hB : 1 ≤ B) (r : Reach (l.map Int.natAbs) c.natAbs 1 B) : GrowOk (hornZ (l ++ [c])) B ∧ ∀ u : Int, B < u.natAbs → 2 * u.natAbs ≤ (hornZ (l ++ [c]) u).natAbs + B := by
  have k := twice_horn (c := c) hl hB r
  exact ⟨grow_horn hl hc hB r fun u hu => by have := k u hu; omega, fun u hu => by have := k u hu; omega⟩
end My

set_option Elab.async false
set_option linter.all false
set_option maxRecDepth 100000
set_option maxHeartbeats 4000000
namespace L2
open PySem PySem.Spec PyProof.Rows
section
variable {X : Cx}
/-- name = {k: v for ..} on one line, the name a local -/
theorem ps_setDc {i : Nat} {y : Str} {py : Pos} {kx vx tg iter : Expr} {ifs : List Expr} {scope : Scope} {own : List (Str × Nat)} {pos spos : Pos} {wi : TI} {g : TG} {tt : TT} {tk tv : TE} (hc : X.calm = true) (hN : X.N.Nodup) (hy : X.N[i]? = some y) (hyl : X.env.scope.names.lookup y = some .local)
    (hsw : swapsWith (.DictComp kx vx [⟨tg, iter, ifs, 0⟩] scope pos) (some (.Name y py)) spos.line X.env = pure true) (hi : PI X tg iter wi) (ok : BlkOk X.N X.env.scope scope own)
    (hg : ∀ (s : Shared) (H : Hp) (C : Addr) (cl : List (Str × Addr)) (fp : List Addr), PG (X.blk s H scope (compEnvC scope cl C X.env) fp) tg g) (ht : ∀ (s : Shared) (H : Hp) (C : Addr) (cl : List (Str × Addr)) (fp : List Addr), PTs (X.blk s H scope (compEnvC scope cl C X.env) fp) ifs tt)
    (hk : ∀ (s : Shared) (H : Hp) (C : Addr) (cl : List (Str × Addr)) (fp : List Addr), PE (X.blk s H scope (compEnvC scope cl C X.env) fp) kx tk)
    (he : ∀ (s : Shared) (H : Hp) (C : Addr) (cl : List (Str × Addr)) (fp : List Addr), PE (X.blk s H scope (compEnvC scope cl C X.env) fp) vx tv) (hs : ∀ x, foldedSetIterable iter X.env x = pure x := by intro _; rfl) :
    PS X (.Assign [.Name y py] (.DictComp kx vx [⟨tg, iter, ifs, 0⟩] scope pos) spos) (tAsg (tDc wi g tt tk tv (own.map (·.2))) (gName i)) := by
  refine ⟨fun pins s σ H D I h => ?_⟩
  rw [exec_Assign_Name_used _ _ _ _ hsw]
  refine wpAny_bind (wpAny_standAt (wpAny_bind ?_))
  show wpAny _ X.A (do let _ ← comprehension (.DictComp kx vx [⟨tg, iter, ifs, 0⟩] scope pos) scope X.env (firstIterPos [⟨tg, iter, ifs, 0⟩] pos) newDict false (eval iter X.env) (some (assign (.Name y py) X.env))) _ _ s
  have h : tDc wi g tt tk tv (own.map (·.2)) σ H (fun x H1 => gName i x σ H1 D.nx) := h
  refine wpAny_bind (thn (dc_core (Qf := fun _ s' => SP X pins D .next s') hc hN I hi ok hg ht hk he hs h fun L C s' m H' I' q hn f => ?_) fun _ s' hq => wpAny_pure (wpAny_pure hq))
  show wpAny _ _ (assign (.Name y py) X.env (.ref L)) _ _ _
  refine wpAny_assign_Name (store_ok2 (v := V.ref L) I' hN hy (.inl hyl) rfl (fun s2 I2 ⟨a, sb, ha⟩ => ?_) (.inr hyl))
  obtain ⟨f0, f1, f2, f3, f4, f5⟩ := f
  have haC : C ≠ a := by
    rcases ha with z | z
    · rw [z]; exact f1
    · exact fun e => f4 y a z e.symm
  refine ⟨m, hn.sameBut sb haC, fun h3 sb3 => ?_⟩
  exact ⟨_, H', I2.turned (t' := s2.toks) (fun b o hb e => (sb3.2 b hb).trans e) f0 f1 f3 f4 f5, q⟩
theorem sw_trueD {kx vx : Expr} {gs : List Comprehension} {scope : Scope} {pos py : Pos} {y : Str} {l : Nat} {env : Env} (hk : env.scope.kind = .function) (hy : env.scope.names.lookup y = some .local) (hl : (py.line == pos.line) = true)
    (ha : (scope.names.any fun (n, k) => n == y && (k == .local || k == .cell)) = false) : swapsWith (.DictComp kx vx gs scope pos) (some (.Name y py)) l env = pure true := by
  have ky : env.kindOf y = some .local := hy
  have hb : env.blockKind = .function := by unfold Env.blockKind; rw [hk]; rfl
  unfold swapsWith
  simp only [hb, ky, ha, Expr.pos, hl]
  rfl
end
/-- over enumerate of a list that stays -/
theorem dc_enum {K : PySem.W.Frag} {a : Addr} {xs : List V} {g : TG} {tt : TT} {tk tv : TE} {vs : List Nat} {σ : St} {H1 : Hp} {D : Addr} {Qd : Hp → Prop} (Pv : Nat → Hp → Prop) (h0 : Pv 0 (upd H1 D (.dK []))) (hl : ∀ i H, Pv i H → SqL K H a xs)
    (hs : ∀ i x H, xs[i]? = some x → Pv i H → ∀ T, H T = none → g (.ref T) (wipe σ vs) (upd H T (.tup [.int (i : Nat), x])) fun σ2 H2 => wipe σ2 vs = wipe σ vs ∧ tt σ2 H2 fun b H3 =>
      if b = true then tk σ2 H3 fun y H4 => tv σ2 H4 fun z H5 => ∃ kvs k, y = kV k ∧ H5 D = some (.dK kvs) ∧ kvs.length < sizeLine ∧ Pv (i + 1) (upd H5 D (.dK (putK kvs k z))) else Pv (i + 1) H3) (hd : ∀ H, Pv xs.length H → Qd H) :
    ∃ W : Nat → Nat → Hp → Prop, (∃ m, W 0 m (upd H1 D (.dK []))) ∧ ∀ i m H, W i m H →
      ((Ite K a).stop i H ∧ Qd H) ∨ ((Ite K a).go i H ∧ ∃ Nx : Hp → Prop, (∀ H', Nx H' → ∃ m', m' < m ∧ W (i + 1) m' H') ∧ ∀ x H', (Ite K a).yld i H x H' → g x (wipe σ vs) H' fun σ2 H2 => wipe σ2 vs = wipe σ vs ∧ tt σ2 H2 fun b H3 =>
        if b = true then tk σ2 H3 fun y H4 => tv σ2 H4 fun z H5 => ∃ kvs k, y = kV k ∧ H5 D = some (.dK kvs) ∧ kvs.length < sizeLine ∧ Nx (upd H5 D (.dK (putK kvs k z))) else Nx H3) := by
  refine ⟨fun i m H => m = xs.length - i ∧ i ≤ xs.length ∧ Pv i H, ⟨xs.length, by simp, Nat.zero_le _, h0⟩, ?_⟩
  rintro i m H ⟨rfl, hi, p⟩
  have q := hl i H p
  by_cases hlt : i < xs.length
  · refine .inr ⟨⟨xs, xs[i], q, by simp [hlt]⟩, Pv (i + 1), fun H' p' => ⟨xs.length - (i + 1), by omega, rfl, hlt, p'⟩, fun v H' y => ?_⟩
    obtain ⟨T, x, rfl, nT, rfl, y⟩ := y
    exact hs i x H (y xs q) p T nT
  · have e : i = xs.length := by omega
    subst e
    exact .inl ⟨⟨xs, q, Nat.le_refl _⟩, hd H p⟩
end L2

set_option Elab.async false
set_option linter.all false
namespace My
/-! ### walks within a greater bound -/
variable {f : Int → Int} {B M : Nat} {x y : Int}
theorem GrowOk.wide (G : GrowOk f B) (h : B ≤ M) : GrowOk f M := ⟨fun u hu => G.gr u (by omega), fun p q hp hq e => G.tw p q (by omega) (by omega) e⟩
theorem few_ints {B : Nat} {l : List Int} (nd : l.Nodup) (h : ∀ z ∈ l, z.natAbs ≤ B) : l.length ≤ 2 * B + 1 := by
  have := List.Nodup.length_le_of_subset (l₂ := (List.range (2 * B + 1)).map fun (i : Nat) => (i : Int) - B) nd fun z hz => by
    have := h z hz
    exact List.mem_map.mpr ⟨(z + B).toNat, List.mem_range.mpr (by omega), by omega⟩
  rwa [List.length_map, List.length_range] at this
theorem nodup_take {n k : Nat} (h : k ≤ n) (nd : ((List.range n).map fun i => itF f i x).Nodup) : ((List.range k).map fun i => itF f i x).Nodup := by
  have e : (List.range n).take k = List.range k := by
    rw [List.take_range, Nat.min_eq_left h]
  have : ((List.range k).map fun i => itF f i x) = ((List.range n).map fun i => itF f i x).take k := by
    rw [← List.map_take, e]
  rw [this]
  exact nd.sublist (List.take_sublist _ _)
/-- so long a walk of unlike numbers is at most -/
theorem walk_few (G : GrowOk f B) (g2 : ∀ u : Int, B < u.natAbs → 2 * u.natAbs ≤ (f u).natAbs + B) {q n : Nat} (hM : M ≤ 2 ^ q) (nd : ((List.range n).map fun i => itF f i x).Nodup) (le : ∀ i, i < n → (itF f i x).natAbs ≤ M) : n ≤ 2 * B + 2 + q := by
  by_cases all : ∀ i, i < n → (itF f i x).natAbs ≤ B
  · have := few_ints (B := B) nd fun z hz => by
      obtain ⟨i, hi, rfl⟩ := List.mem_map.mp hz
      exact all i (List.mem_range.mp hi)
    rw [List.length_map, List.length_range] at this
    omega
  · obtain ⟨k, ⟨hk, far⟩, no⟩ : ∃ k, (k < n ∧ B < (itF f k x).natAbs) ∧ ∀ j, j < k → ¬ (j < n ∧ B < (itF f j x).natAbs) := by
      have : ∃ i, i < n ∧ B < (itF f i x).natAbs := Classical.byContradiction fun c => all fun i hi => Classical.byContradiction fun d => c ⟨i, hi, by omega⟩
      obtain ⟨i, h⟩ := this
      exact least_ex (p := fun i => i < n ∧ B < (itF f i x).natAbs) h
    have hk1 := few_ints (B := B) (nodup_take (by omega) nd : ((List.range k).map fun i => itF f i x).Nodup) fun z hz => by
      obtain ⟨i, hi, rfl⟩ := List.mem_map.mp hz
      have hi := List.mem_range.mp hi
      have := no i hi
      omega
    rw [List.length_map, List.length_range] at hk1
    have up : ∀ t, 2 ^ t + B ≤ (itF f (k + t) x).natAbs := by
      intro t
      induction t with
      | zero =>
        show 1 + B ≤ (itF f k x).natAbs
        omega
      | succ t ih =>
        have p := Nat.two_pow_pos t
        have := g2 _ (show B < (itF f (k + t) x).natAbs by omega)
        show 2 ^ (t + 1) + B ≤ (f (itF f (k + t) x)).natAbs
        rw [Nat.pow_succ]
        omega
    have h1 := up (n - 1 - k)
    rw [show k + (n - 1 - k) = n - 1 by omega] at h1
    have h2 := le (n - 1) (by omega)
    have : n - 1 - k < q ∨ n - 1 - k = q ∨ q < n - 1 - k := by omega
    rcases this with z | z | z
    · omega
    · omega
    · have := Nat.pow_lt_pow_right (a := 2) (by decide) z
      omega
/-- the first place where a walk is beyond B -/
theorem Path.sub (G : GrowOk f B) (hB : B ≤ M) {n : Nat} (h : Path f M x n none) : ∃ k, Path f B x k none ∧ k ≤ n := by
  have far : B < (itF f (n - 1) x).natAbs := by have := (h.out rfl).1; omega
  obtain ⟨k, h1, no⟩ := least_ex (p := fun i => B < (itF f i x).natAbs) far
  have hk : k ≤ n - 1 := Classical.byContradiction fun c => no (n - 1) (by omega) far
  have np := h.pos
  refine ⟨k + 1, ⟨by omega, nodup_take (by omega) h.nd, fun _ => ⟨h1, fun i hi => ?_⟩, fun p e => nomatch e⟩, by omega⟩
  have := no i (by omega)
  omega
/-- the law's own walks tell the first meeting, if a second number out there is within them -/
theorem meet_walks (G : GrowOk f B) (hB : B ≤ M) {n k : Nat} {bx cy : Option Nat} {r : Option (Nat × Nat)} (hx : Path f M x n bx) (hy : Path f M y k cy)
    (sx : ∀ m, Path f B x m none → (itF f (m - 1) x).natAbs ≤ M ∧ (itF f m x).natAbs ≤ M) (sy : ∀ m, Path f B y m none → (itF f (m - 1) y).natAbs ≤ M ∧ (itF f m y).natAbs ≤ M)
    (F : FirstM ((List.range n).map fun i => itF f i x) ((List.range k).map fun i => itF f i y) r) : Meet f x y r := by
  match bx, cy with
  | some p, some q => exact meet_round hx hy F
  | some p, none =>
    have no := (meet_apart (G.wide hB) hy hx).2
    match r, F with
    | none, _ => exact no
    | some (i, j), F =>
      obtain ⟨a, h1, h2, _⟩ := F
      have i1 := (List.getElem?_eq_some_iff.mp h1).1
      have i2 := (List.getElem?_eq_some_iff.mp h2).1
      rw [List.length_map, List.length_range] at i1 i2
      rw [itl_get i1] at h1
      rw [itl_get i2] at h2
      exact absurd ((Option.some.inj h1).trans (Option.some.inj h2).symm) (no i j)
  | none, some q =>
    have no := (meet_apart (G.wide hB) hx hy).1
    match r, F with
    | none, _ => exact no
    | some (i, j), F =>
      obtain ⟨a, h1, h2, _⟩ := F
      have i1 := (List.getElem?_eq_some_iff.mp h1).1
      have i2 := (List.getElem?_eq_some_iff.mp h2).1
      rw [List.length_map, List.length_range] at i1 i2
      rw [itl_get i1] at h1
      rw [itl_get i2] at h2
      exact absurd ((Option.some.inj h1).trans (Option.some.inj h2).symm) (no i j)
  | none, none =>
    obtain ⟨m, pm, hm⟩ := hx.sub G hB
    obtain ⟨l, pl, hl⟩ := hy.sub G hB
    have a1 := sx m pm
    have a2 := sy l pl
    have o1 := (hx.out rfl).1
    have o2 := (hy.out rfl).1
    have p1 := pm.pos
    have p2 := pl.pos
    have m1 : m + 1 ≤ n := by
      rcases Nat.lt_or_ge m n with z | z
      · exact z
      · have : n = m := by omega
        rw [this] at o1
        omega
    have l1 : l + 1 ≤ k := by
      rcases Nat.lt_or_ge l k with z | z
      · exact z
      · have : k = l := by omega
        rw [this] at o2
        omega
    exact meet_out G pm pl m1 l1 (by omega) (by omega) (by omega) (by omega) hy.nd F
theorem Meet.self {r : Option (Nat × Nat)} (h : Meet f x x r) : r = some (0, 0) := by
  match r with
  | none => exact absurd rfl (h 0 0)
  | some (i, j) =>
    obtain ⟨e, h1, h2⟩ := h
    have i0 : i = 0 := by
      rcases Nat.eq_zero_or_pos i with z | z
      · exact z
      · exact absurd rfl (h1 0 0 z)
    subst i0
    have j0 : j = 0 := by
      rcases Nat.eq_zero_or_pos j with z | z
      · exact z
      · exact absurd rfl (h2 0 z)
    rw [j0]
theorem itF_in : ∀ n, itF f n (f x) = f (itF f n x)
  | 0 => rfl
  | n + 1 => congrArg f (itF_in n)
theorem Meet.both {r s : Option (Nat × Nat)} (h : Meet f x y r) (g : Meet f (f x) (f y) s) : s = none ↔ r = none := by
  have key : (∃ i j, itF f i x = itF f j y) ↔ ∃ i j, itF f i (f x) = itF f j (f y) := by
    constructor
    · rintro ⟨i, j, e⟩
      exact ⟨i, j, by rw [itF_in, itF_in, e]⟩
    · rintro ⟨i, j, e⟩
      refine ⟨i + 1, j + 1, ?_⟩
      rw [itF_in, itF_in] at e
      exact e
  have none_iff : ∀ {x y : Int} {r : Option (Nat × Nat)}, Meet f x y r → (r = none ↔ ¬ ∃ i j, itF f i x = itF f j y) := by
    intro x y r h
    match r with
    | none => exact ⟨fun _ ⟨i, j, e⟩ => h i j e, fun _ => rfl⟩
    | some (i, j) => exact ⟨fun e => (nomatch e), fun c => absurd ⟨i, j, h.1⟩ c⟩
  rw [none_iff h, none_iff g, key]
end My

set_option Elab.async false
set_option linter.all false
namespace My
/-! ### the numbers met in order, each with the first word that leads to it -/
structure Ent where
  z : Int
  w : List Nat
  p : Int
abbrev keysE (o : List Ent) : List Int := o.map Ent.z
def addN (M : Nat) (x : Int) (w : List Nat) (fs : List Int) (o : List Ent) : Nat → List Ent
  | 0 => o
  | n + 1 => match fs[n]? with
    | some z => if z.natAbs ≤ M ∧ z ∉ keysE (addN M x w fs o n) then addN M x w fs o n ++ [⟨z, w ++ [n], x⟩] else addN M x w fs o n
    | none => addN M x w fs o n
def bfs (M : Nat) (F : Int → List Int) (s : Int) : Nat → List Ent
  | 0 => [⟨s, [], s⟩]
  | n + 1 => match (bfs M F s n)[n]? with
    | some e => addN M e.z e.w (F e.z) (bfs M F s n) (F e.z).length
    | none => bfs M F s n
section
variable {M : Nat} {F : Int → List Int} {s x : Int} {w : List Nat} {fs : List Int} {o : List Ent}
theorem addN_some {n : Nat} {z : Int} (h : fs[n]? = some z) : addN M x w fs o (n + 1) = if z.natAbs ≤ M ∧ z ∉ keysE (addN M x w fs o n) then addN M x w fs o n ++ [⟨z, w ++ [n], x⟩] else addN M x w fs o n := by
  show (match fs[n]? with | some z => _ | none => _) = _
  rw [h]
theorem addN_none {n : Nat} (h : fs[n]? = none) : addN M x w fs o (n + 1) = addN M x w fs o n := by
  show (match fs[n]? with | some z => _ | none => _) = _
  rw [h]
theorem bfs_some {n : Nat} {e : Ent} (h : (bfs M F s n)[n]? = some e) : bfs M F s (n + 1) = addN M e.z e.w (F e.z) (bfs M F s n) (F e.z).length := by
  show (match (bfs M F s n)[n]? with | some e => _ | none => _) = _
  rw [h]
theorem bfs_none {n : Nat} (h : (bfs M F s n)[n]? = none) : bfs M F s (n + 1) = bfs M F s n := by
  show (match (bfs M F s n)[n]? with | some e => _ | none => _) = _
  rw [h]
/-- every new one: within, new, by the number x and its word -/
theorem addN_ind {P : List Ent → Prop} (h0 : P o) (hs : ∀ o' n z, P o' → (∃ t, o' = o ++ t) → fs[n]? = some z → z.natAbs ≤ M → z ∉ keysE o' → P (o' ++ [⟨z, w ++ [n], x⟩])) : ∀ n, P (addN M x w fs o n) := by
  have key : ∀ n, P (addN M x w fs o n) ∧ ∃ t, addN M x w fs o n = o ++ t := fun n => by
    induction n with
    | zero => exact ⟨h0, [], (List.append_nil _).symm⟩
    | succ n ih =>
      cases e : fs[n]? with
      | none => rw [addN_none e]; exact ih
      | some z =>
        rw [addN_some e]
        split
        · rename_i c
          obtain ⟨t, et⟩ := ih.2
          exact ⟨hs _ n z ih.1 ih.2 e c.1 c.2, t ++ [⟨z, w ++ [n], x⟩], by rw [et, List.append_assoc]⟩
        · exact ih
  exact fun n => (key n).1
theorem addN_ext (n : Nat) : ∃ t, addN M x w fs o n = o ++ t :=
  addN_ind (P := fun o' => ∃ t, o' = o ++ t) ⟨[], (List.append_nil _).symm⟩ (fun o' n z _ ht _ _ _ => by
    obtain ⟨t, rfl⟩ := ht
    exact ⟨t ++ [⟨z, w ++ [n], x⟩], List.append_assoc _ _ _⟩) n
theorem addN_more (n k : Nat) : ∃ t, addN M x w fs o (n + k) = addN M x w fs o n ++ t := by
  induction k with
  | zero => exact ⟨[], (List.append_nil _).symm⟩
  | succ k ih =>
    obtain ⟨t, ht⟩ := ih
    cases e : fs[n + k]? with
    | none => exact ⟨t, by rw [← Nat.add_assoc, addN_none e]; exact ht⟩
    | some z =>
      rw [← Nat.add_assoc, addN_some e]
      split
      · exact ⟨t ++ [⟨z, w ++ [n + k], x⟩], by rw [ht, List.append_assoc]⟩
      · exact ⟨t, ht⟩
/-- all that are within are met -/
theorem addN_has {n i : Nat} {z : Int} (hi : i < n) (h : fs[i]? = some z) (hz : z.natAbs ≤ M) : z ∈ keysE (addN M x w fs o n) := by
  obtain ⟨t, ht⟩ := addN_more (M := M) (x := x) (w := w) (fs := fs) (o := o) (i + 1) (n - (i + 1))
  rw [show i + 1 + (n - (i + 1)) = n by omega] at ht
  rw [ht, keysE, List.map_append]
  refine List.mem_append_left _ ?_
  rw [addN_some h]
  split
  · rw [List.map_append]
    exact List.mem_append_right _ List.mem_cons_self
  · rename_i c
    exact Classical.byContradiction fun d => c ⟨hz, d⟩
/-- what holds of the order all along -/
theorem bfs_ind {P : List Ent → Prop} (h0 : P [⟨s, [], s⟩]) (hs : ∀ o n e, o = bfs M F s n → o[n]? = some e → P o → P (addN M e.z e.w (F e.z) o (F e.z).length)) : ∀ n, P (bfs M F s n) := fun n => by
  induction n with
  | zero => exact h0
  | succ n ih =>
    cases e : (bfs M F s n)[n]? with
    | none => rw [bfs_none e]; exact ih
    | some y => rw [bfs_some e]; exact hs _ n y rfl e ih
theorem bfs_ext (n : Nat) : ∃ t, bfs M F s (n + 1) = bfs M F s n ++ t := by
  cases e : (bfs M F s n)[n]? with
  | none => rw [bfs_none e]; exact ⟨[], (List.append_nil _).symm⟩
  | some y => rw [bfs_some e]; exact addN_ext _
theorem bfs_more (n k : Nat) : ∃ t, bfs M F s (n + k) = bfs M F s n ++ t := by
  induction k with
  | zero => exact ⟨[], (List.append_nil _).symm⟩
  | succ k ih =>
    obtain ⟨t, ht⟩ := ih
    obtain ⟨u, hu⟩ := bfs_ext (M := M) (F := F) (s := s) (n + k)
    exact ⟨t ++ u, by rw [← Nat.add_assoc, hu, ht, List.append_assoc]⟩
theorem bfs_len (n : Nat) : 1 ≤ (bfs M F s n).length := by
  obtain ⟨t, ht⟩ := bfs_more (M := M) (F := F) (s := s) 0 n
  rw [Nat.zero_add] at ht
  rw [ht]
  show 1 ≤ ([⟨s, [], s⟩] ++ t : List Ent).length
  simp
theorem nodup_snoc {l : List Int} {z : Int} (h : l.Nodup) (hz : z ∉ l) : (l ++ [z]).Nodup := by
  rw [List.nodup_append]
  exact ⟨h, by simp, fun a ha b hb e => by rw [List.mem_singleton.mp hb] at e; exact hz (e ▸ ha)⟩
theorem addN_nodup (h : (keysE o).Nodup) (n : Nat) : (keysE (addN M x w fs o n)).Nodup :=
  addN_ind (P := fun o => (keysE o).Nodup) h (fun o' n z ho _ _ _ hz => by rw [keysE, List.map_append]; exact nodup_snoc ho hz) n
theorem bfs_nodup (n : Nat) : (keysE (bfs M F s n)).Nodup :=
  bfs_ind (P := fun o => (keysE o).Nodup) (by simp [keysE]) (fun o n e _ _ ho => addN_nodup ho _) n
theorem bfs_within (hs : s.natAbs ≤ M) (n : Nat) : ∀ e ∈ bfs M F s n, e.z.natAbs ≤ M :=
  bfs_ind (P := fun o => ∀ e ∈ o, e.z.natAbs ≤ M) (fun e he => by rw [List.mem_singleton.mp he]; exact hs) (fun o n e _ _ ho =>
    addN_ind (P := fun o => ∀ e ∈ o, e.z.natAbs ≤ M) ho (fun o' n z ho' _ _ hz _ e he => by
      rcases List.mem_append.mp he with h | h
      · exact ho' e h
      · rw [List.mem_singleton.mp h]; exact hz) _) n
theorem bfs_few (hs : s.natAbs ≤ M) (n : Nat) : (bfs M F s n).length ≤ 2 * M + 1 := by
  have := few_ints (B := M) (bfs_nodup (M := M) (F := F) (s := s) n) fun z hz => by
    obtain ⟨e, he, rfl⟩ := List.mem_map.mp hz
    exact bfs_within hs n e he
  rwa [List.length_map] at this
theorem bfs_short (n : Nat) : ∀ e ∈ bfs M F s n, e.w.length < (bfs M F s n).length :=
  bfs_ind (P := fun o => ∀ e ∈ o, e.w.length < o.length) (fun e he => by rw [List.mem_singleton.mp he]; exact Nat.zero_lt_one) (fun o n e _ he ho =>
    (addN_ind (P := fun o' => (∀ e ∈ o', e.w.length < o'.length) ∧ e ∈ o') ⟨ho, List.mem_of_getElem? he⟩ (fun o' n z ho' _ _ _ _ => ⟨fun y hy => by
      rw [List.length_append]
      rcases List.mem_append.mp hy with h | h
      · exact Nat.lt_succ_of_lt (ho'.1 y h)
      · rw [List.mem_singleton.mp h]
        show (e.w ++ [n]).length < _
        rw [List.length_append]
        exact Nat.succ_lt_succ (ho'.1 e ho'.2), List.mem_append_left _ ho'.2⟩) _).1) n
/-- behind the last one nothing comes -/
theorem bfs_end {n : Nat} (h : (bfs M F s n).length ≤ n) (k : Nat) : bfs M F s (n + k) = bfs M F s n := by
  induction k with
  | zero => rfl
  | succ k ih =>
    rw [← Nat.add_assoc, bfs_none, ih]
    rw [ih]
    exact List.getElem?_eq_none (by omega)
def bfsE (M : Nat) (F : Int → List Int) (s : Int) : List Ent := bfs M F s (2 * M + 1)
theorem bfs_fin (hs : s.natAbs ≤ M) {n : Nat} (h : (bfs M F s n).length ≤ n) : bfs M F s n = bfsE M F s := by
  unfold bfsE
  rcases Nat.le_total n (2 * M + 1) with z | z
  · rw [show 2 * M + 1 = n + (2 * M + 1 - n) by omega, bfs_end h]
  · have e := bfs_end (M := M) (F := F) (s := s) (bfs_few hs (2 * M + 1)) (n - (2 * M + 1))
    rw [show 2 * M + 1 + (n - (2 * M + 1)) = n by omega] at e
    exact e
theorem bfs_pre (hs : s.natAbs ≤ M) (n : Nat) : ∃ t, bfsE M F s = bfs M F s n ++ t := by
  rcases Nat.le_total n (2 * M + 1) with z | z
  · obtain ⟨t, ht⟩ := bfs_more (M := M) (F := F) (s := s) n (2 * M + 1 - n)
    rw [show n + (2 * M + 1 - n) = 2 * M + 1 by omega] at ht
    exact ⟨t, ht⟩
  · have e := bfs_end (M := M) (F := F) (s := s) (bfs_few hs (2 * M + 1)) (n - (2 * M + 1))
    rw [show 2 * M + 1 + (n - (2 * M + 1)) = n by omega] at e
    exact ⟨[], by rw [e, List.append_nil]; rfl⟩
/-- the words come from words -/
structure Rooted (s : Int) (F : Int → List Int) (M : Nat) (o : List Ent) : Prop where
  head : ∃ t, o = ⟨s, [], s⟩ :: t
  tail : ∀ e ∈ o, e.w = [] ∧ e.z = s ∨ ∃ w i q, e.w = w ++ [i] ∧ (⟨e.p, w, q⟩ : Ent) ∈ o ∧ (F e.p)[i]? = some e.z ∧ e.z ≠ s
theorem Rooted.snoc {e : Ent} {i : Nat} {z : Int} (R : Rooted s F M o) (he : e ∈ o) (hi : (F e.z)[i]? = some z) (hz : z ∉ keysE o) : Rooted s F M (o ++ [⟨z, e.w ++ [i], e.z⟩]) := by
  obtain ⟨⟨t, rfl⟩, tail⟩ := R
  refine ⟨⟨t ++ [⟨z, e.w ++ [i], e.z⟩], rfl⟩, fun y hy => ?_⟩
  rcases List.mem_append.mp hy with h | h
  · rcases tail y h with c | ⟨w, j, q, c1, c2, c3, c4⟩
    · exact .inl c
    · exact .inr ⟨w, j, q, c1, List.mem_append_left _ c2, c3, c4⟩
  · rw [List.mem_singleton.mp h]
    exact .inr ⟨e.w, i, e.p, rfl, List.mem_append_left _ he, hi, fun c => hz (by have c : z = s := c; rw [c]; exact List.mem_cons_self)⟩
theorem bfs_rooted (n : Nat) : Rooted s F M (bfs M F s n) :=
  bfs_ind (P := Rooted s F M) ⟨⟨[], rfl⟩, fun e he => by rw [List.mem_singleton.mp he]; exact .inl ⟨rfl, rfl⟩⟩ (fun o n e _ he ho =>
    (addN_ind (P := fun o' => Rooted s F M o' ∧ e ∈ o') ⟨ho, List.mem_of_getElem? he⟩ (fun o' n z ho' _ hn _ hz => ⟨ho'.1.snoc ho'.2 hn hz, List.mem_append_left _ ho'.2⟩) _).1) n
/-- where a word leads -/
def leadW (F : Int → List Int) : Int → List Nat → Option Int
  | x, [] => some x
  | x, i :: w => (F x)[i]?.bind fun y => leadW F y w
theorem leadW_snoc {x y z : Int} {w : List Nat} {i : Nat} (h : leadW F x w = some y) (hi : (F y)[i]? = some z) : leadW F x (w ++ [i]) = some z := by
  induction w generalizing x with
  | nil =>
    have e : x = y := Option.some.inj h
    show (F x)[i]?.bind _ = _
    rw [e, hi]
    rfl
  | cons j w ih =>
    show (F x)[j]?.bind _ = _
    have h : (F x)[j]?.bind (fun y => leadW F y w) = some y := h
    cases e : (F x)[j]? with
    | none => rw [e] at h; cases h
    | some u => rw [e] at h; exact ih h
theorem Rooted.leads (R : Rooted s F M o) : ∀ (n : Nat) (e : Ent), e ∈ o → e.w.length = n → leadW F s e.w = some e.z
  | 0, e, he, hn => by
    rcases R.tail e he with ⟨c1, c2⟩ | ⟨w, i, q, c1, _⟩
    · rw [c1, c2]; rfl
    · rw [c1, List.length_append] at hn; simp at hn
  | n + 1, e, he, hn => by
    rcases R.tail e he with ⟨c1, c2⟩ | ⟨w, i, q, c1, c2, c3, _⟩
    · rw [c1] at hn; cases hn
    · rw [c1, List.length_append] at hn
      have ih := R.leads n ⟨e.p, w, q⟩ c2 (by simpa using hn)
      rw [c1]
      exact leadW_snoc ih c3
/-- the numbers a word leads to within the bound -/
inductive Wlk (F : Int → List Int) (M : Nat) (s : Int) : Nat → Int → Prop
  | zero : Wlk F M s 0 s
  | step {n : Nat} {x z : Int} : Wlk F M s n x → z ∈ F x → z.natAbs ≤ M → Wlk F M s (n + 1) z
theorem Wlk.wide {G : Int → List Int} {M' n : Nat} {z : Int} (hG : ∀ x, ∀ y ∈ F x, y ∈ G x) (hM : M ≤ M') (h : Wlk F M s n z) : Wlk G M' s n z := by
  induction h with
  | zero => exact .zero
  | step _ h1 h2 ih => exact .step ih (hG _ _ h1) (by omega)
theorem Rooted.walk (R : Rooted s F M o) (hW : ∀ e ∈ o, e.z.natAbs ≤ M) : ∀ (n : Nat) (e : Ent), e ∈ o → e.w.length = n → Wlk F M s n e.z
  | 0, e, he, hn => by
    rcases R.tail e he with ⟨c1, c2⟩ | ⟨w, i, q, c1, _⟩
    · rw [c2]; exact .zero
    · rw [c1, List.length_append] at hn; simp at hn
  | n + 1, e, he, hn => by
    rcases R.tail e he with ⟨c1, c2⟩ | ⟨w, i, q, c1, c2, c3, _⟩
    · rw [c1] at hn; cases hn
    · rw [c1, List.length_append] at hn
      exact .step (R.walk hW n ⟨e.p, w, q⟩ c2 (by simpa using hn)) (List.mem_of_getElem? c3) (hW e he)
/-- the words come in the order of their lengths -/
structure Lens (o : List Ent) (n : Nat) : Prop where
  up : (o.map fun e => e.w.length).Pairwise (· ≤ ·)
  top : ∀ e, o[n]? = some e → ∀ y ∈ o, y.w.length ≤ e.w.length + 1
theorem bfs_lens (n : Nat) : Lens (bfs M F s n) n := by
  induction n with
  | zero => exact ⟨by simp [bfs], fun e he y hy => by
      have h1 : y = ⟨s, [], s⟩ := List.mem_singleton.mp hy
      rw [h1]; simp⟩
  | succ n ih =>
    cases e : (bfs M F s n)[n]? with
    | none =>
      rw [bfs_none e]
      refine ⟨ih.up, fun y hy => ?_⟩
      have h1 := (List.getElem?_eq_some_iff.mp hy).1
      rw [List.getElem?_eq_none_iff] at e
      omega
    | some y =>
      rw [bfs_some e]
      have ht := ih.top y e
      have := addN_ind (P := fun o' => (o'.map fun e => e.w.length).Pairwise (· ≤ ·) ∧ ∀ u ∈ o', u.w.length ≤ y.w.length + 1) (M := M) (x := y.z) (w := y.w) (fs := F y.z) (o := bfs M F s n) ⟨ih.up, ht⟩ (fun o' m z ho' _ _ _ _ => by
        obtain ⟨h1, h2⟩ := ho'
        refine ⟨?_, fun u hu => ?_⟩
        · rw [List.map_append, List.pairwise_append]
          refine ⟨h1, by simp, fun a ha b hb => ?_⟩
          obtain ⟨u, hu, rfl⟩ := List.mem_map.mp ha
          have hb : b = (y.w ++ [m]).length := List.mem_singleton.mp hb
          rw [hb, List.length_append]
          exact h2 u hu
        · rcases List.mem_append.mp hu with h | h
          · exact h2 u h
          · rw [List.mem_singleton.mp h]
            show (y.w ++ [m]).length ≤ _
            rw [List.length_append]
            exact Nat.le_refl _) (F y.z).length
      obtain ⟨h1, h2⟩ := this
      refine ⟨h1, fun u hu v hv => Nat.le_trans (h2 v hv) (Nat.succ_le_succ ?_)⟩
      obtain ⟨t, et⟩ := addN_ext (M := M) (x := y.z) (w := y.w) (fs := F y.z) (o := bfs M F s n) (F y.z).length
      have l1 := (List.getElem?_eq_some_iff.mp e).1
      have hy : (addN M y.z y.w (F y.z) (bfs M F s n) (F y.z).length)[n]? = some y := by rw [et, List.getElem?_append_left l1]; exact e
      have l2 := (List.getElem?_eq_some_iff.mp hu).1
      have l3 := (List.getElem?_eq_some_iff.mp hy).1
      have := List.pairwise_iff_getElem.mp h1 n (n + 1) (by rw [List.length_map]; exact l3) (by rw [List.length_map]; exact l2) (Nat.lt_succ_self n)
      rw [List.getElem_map, List.getElem_map] at this
      rw [(List.getElem?_eq_some_iff.mp hy).2, (List.getElem?_eq_some_iff.mp hu).2] at this
      exact this
/-- behind the turn of a number all its followers are met, by a word that is at most one longer -/
theorem bfs_next {n k : Nat} {e : Ent} (hk : k < n) (he : (bfs M F s n)[k]? = some e) {z : Int} (hz : z ∈ F e.z) (hM : z.natAbs ≤ M) : ∃ y ∈ bfs M F s n, y.z = z ∧ y.w.length ≤ e.w.length + 1 := by
  obtain ⟨t, ht⟩ := bfs_more (M := M) (F := F) (s := s) (k + 1) (n - (k + 1))
  rw [show k + 1 + (n - (k + 1)) = n by omega] at ht
  cases e1 : (bfs M F s k)[k]? with
  | none =>
    -- k is behind the end: then nothing stands there
    have h0 := List.getElem?_eq_none_iff.mp e1
    have := bfs_end (M := M) (F := F) (s := s) h0 (n - k)
    rw [show k + (n - k) = n by omega] at this
    rw [this, e1] at he
    cases he
  | some u =>
    have l1 := (List.getElem?_eq_some_iff.mp e1).1
    obtain ⟨t1, ht1⟩ := bfs_more (M := M) (F := F) (s := s) k (n - k)
    rw [show k + (n - k) = n by omega] at ht1
    have : u = e := by
      rw [ht1, List.getElem?_append_left l1, e1] at he
      exact Option.some.inj he
    subst this
    obtain ⟨i, hi⟩ := List.getElem?_of_mem hz
    have mem := addN_has (M := M) (x := u.z) (w := u.w) (o := bfs M F s k) (List.getElem?_eq_some_iff.mp hi).1 hi hM
    obtain ⟨y, hy, rfl⟩ := List.mem_map.mp mem
    have top := (bfs_lens (M := M) (F := F) (s := s) k).top u e1
    have len := addN_ind (P := fun o' => ∀ v ∈ o', v.w.length ≤ u.w.length + 1) (M := M) (x := u.z) (w := u.w) (fs := F u.z) (o := bfs M F s k) top (fun o' m z ho' _ _ _ _ v hv => by
      rcases List.mem_append.mp hv with h | h
      · exact ho' v h
      · rw [List.mem_singleton.mp h]
        show (u.w ++ [m]).length ≤ _
        rw [List.length_append]
        exact Nat.le_refl _) (F u.z).length
    refine ⟨y, ?_, rfl, len y hy⟩
    rw [ht]
    refine List.mem_append_left _ ?_
    rw [bfs_some e1]
    exact hy
/-- no word is shorter -/
theorem bfs_least (hs : s.natAbs ≤ M) {n : Nat} {z : Int} (h : Wlk F M s n z) : ∃ y ∈ bfsE M F s, y.z = z ∧ y.w.length ≤ n := by
  induction h with
  | zero =>
    obtain ⟨t, ht⟩ := (bfs_rooted (M := M) (F := F) (s := s) (2 * M + 1)).head
    exact ⟨⟨s, [], s⟩, by unfold bfsE; rw [ht]; exact List.mem_cons_self, rfl, Nat.le_refl _⟩
  | @step n x z _ h1 h2 ih =>
    obtain ⟨y, hy, rfl, hn⟩ := ih
    obtain ⟨k, hk⟩ := List.getElem?_of_mem hy
    have lk := (List.getElem?_eq_some_iff.mp hk).1
    have few := bfs_few (F := F) hs (2 * M + 1)
    obtain ⟨v, hv, e, len⟩ := bfs_next (n := 2 * M + 1) (k := k) (by unfold bfsE at lk; omega) hk h1 h2
    exact ⟨v, hv, e, by omega⟩
theorem ent_uniq {e y : Ent} (nd : (keysE o).Nodup) (he : e ∈ o) (hy : y ∈ o) (h : e.z = y.z) : e = y := by
  obtain ⟨i, hi⟩ := List.getElem?_of_mem he
  obtain ⟨j, hj⟩ := List.getElem?_of_mem hy
  have li := (List.getElem?_eq_some_iff.mp hi).1
  have a : (keysE o)[i]? = some e.z := by rw [List.getElem?_map, hi]; rfl
  have b : (keysE o)[j]? = some e.z := by rw [List.getElem?_map, hj, h]; rfl
  have : i = j := (List.getElem?_inj (by rw [List.length_map]; exact li) nd).mp (a.trans b.symm)
  subst this
  rw [hi] at hj
  exact Option.some.inj hj
end
end My

set_option Elab.async false
set_option linter.all false
set_option maxRecDepth 100000
set_option maxHeartbeats 4000000
namespace L2
open PySem PySem.Spec PyProof.Rows
/-! ### a dict beside an empty one -/
section
variable {X : Cx}
def rNeE : R2 := fun x y H Q => ∃ a b ks, x = .ref a ∧ y = .ref b ∧ H a = some (.dK ks) ∧ H b = some (.dK []) ∧ Q (.bl (!ks.isEmpty)) H
theorem op_neE (hu : X.A.units + 1 < cLine) : OpR X (compareOp .NotEq) rNeE := by
  intro pins s σ H x y v u Q I rx ry h
  obtain ⟨a, b, ks, rfl, rfl, ea, eb, q⟩ := h
  cases ks with
  | nil => exact op_ne_dictA (X := X) (by omega) pins s σ H _ _ v u Q I rx ry ⟨a, b, [], [], rfl, rfl, ea, eb, rfl, fun p hp => (nomatch hp), q⟩
  | cons k ks =>
    obtain rfl : v = Value.ref a := rx
    obtain rfl : u = Value.ref b := ry
    obtain ⟨_, ya, va, ra, da⟩ := (show ObjOk X.prog X.w H s.heap a (.dK (k :: ks)) from I.hok a _ ea)
    obtain ⟨_, yb, vb, rb, db⟩ := (show ObjOk X.prog X.w H s.heap b (.dK []) from I.hok b _ eb)
    have la : va.length = ks.length + 1 := by rw [← ra.length]; rfl
    have lb : vb.length = 0 := by rw [← rb.length]; rfl
    exact PySem.W.keq_ne (knd := mixKind X.prog X.w) (r := true) ya yb da db (by omega) (fun e => absurd e (by omega)) (fin_bl I q (by simp [la, lb]))
end
end L2

set_option Elab.async false
set_option linter.all false
namespace My
/-! ### the ends of all words of a length -/
def keepIn (M : Nat) (l : List Int) : List Int := l.filter fun z => decide (z.natAbs ≤ M)
/-- the ends keepIn the bound all along -/
def endsW (M : Nat) (F : Int → List Int) (s : Int) : Nat → List Int
  | 0 => keepIn M [s]
  | n + 1 => (endsW M F s n).flatMap fun x => keepIn M (F x)
/-- all the ends -/
def endsA (F : Int → List Int) (s : Int) : Nat → List Int
  | 0 => [s]
  | n + 1 => (endsA F s n).flatMap F
section
variable {M : Nat} {F : Int → List Int} {s : Int}
theorem keepIn_flat (l : List Int) (f : Int → List Int) : keepIn M (l.flatMap f) = l.flatMap fun x => keepIn M (f x) := by
  induction l with
  | nil => rfl
  | cons a l ih => rw [List.flatMap_cons, List.flatMap_cons, keepIn, List.filter_append]; exact congrArg _ ih
/-- what leaves never comes back -/
theorem ends_same (far : ∀ x : Int, M < x.natAbs → ∀ y ∈ F x, M < y.natAbs) (n : Nat) : keepIn M (endsA F s n) = endsW M F s n := by
  induction n with
  | zero => rfl
  | succ n ih =>
    show keepIn M ((endsA F s n).flatMap F) = (endsW M F s n).flatMap fun x => keepIn M (F x)
    rw [keepIn_flat, ← ih]
    have key : ∀ l : List Int, (l.flatMap fun x => keepIn M (F x)) = (keepIn M l).flatMap fun x => keepIn M (F x) := fun l => by
      induction l with
      | nil => rfl
      | cons a l ih2 =>
        rw [List.flatMap_cons, ih2]
        unfold keepIn
        rw [List.filter_cons]
        by_cases h : a.natAbs ≤ M
        · rw [if_pos (decide_eq_true h), List.flatMap_cons]
        · rw [if_neg (by simpa using h)]
          have : (F a).filter (fun z => decide (z.natAbs ≤ M)) = [] := List.filter_eq_nil_iff.mpr fun y hy => by
            have := far a (by omega) y hy
            simp
            omega
          rw [this]
          rfl
    exact key _
theorem count_keepIn {l : List Int} {z : Int} (h : z.natAbs ≤ M) : (keepIn M l).count z = l.count z := by
  unfold keepIn
  exact List.count_filter (p := fun (z : Int) => decide (z.natAbs ≤ M)) (decide_eq_true h)
/-- from the front -/
theorem endsA_front (n : Nat) : endsA F s (n + 1) = (F s).flatMap fun y => endsA F y n := by
  induction n with
  | zero => show [s].flatMap F = (F s).flatMap fun y => [y]; simp
  | succ n ih =>
    show (endsA F s (n + 1)).flatMap F = _
    rw [ih, List.flatMap_assoc]
    rfl
theorem count_flat (l : List Int) (f : Int → List Int) (z : Int) : (l.flatMap f).count z = (l.map fun x => (f x).count z).sum := by
  induction l with
  | nil => rfl
  | cons a l ih => rw [List.flatMap_cons, List.count_append, ih]; rfl
/-- by the numbers there are, each as often as it is there -/
theorem count_by (f : Int → List Int) (z : Int) {ks : List Int} (nd : ks.Nodup) : ∀ l : List Int, (∀ x ∈ l, x ∈ ks) → (l.flatMap f).count z = (ks.map fun x => l.count x * (f x).count z).sum
  | [], _ => by
    have : ∀ ks : List Int, (ks.map fun x => ([] : List Int).count x * (f x).count z).sum = 0 := fun ks => by
      induction ks with
      | nil => rfl
      | cons a ks ih => rw [List.map_cons, List.sum_cons, ih]; simp
    rw [this]; rfl
  | a :: l, h => by
    rw [List.flatMap_cons, List.count_append, count_by f z nd l fun x hx => h x (List.mem_cons_of_mem _ hx)]
    have ha := h a List.mem_cons_self
    clear h
    induction ks with
    | nil => cases ha
    | cons k ks ih =>
      have nd' := List.nodup_cons.mp nd
      rw [List.map_cons, List.sum_cons, List.map_cons, List.sum_cons]
      by_cases e : a = k
      · subst e
        have rest : (ks.map fun x => (a :: l).count x * (f x).count z) = ks.map fun x => l.count x * (f x).count z := List.map_congr_left fun x hx => by
          rw [List.count_cons_of_ne (fun c => nd'.1 (by rw [c]; exact hx))]
        rw [rest, List.count_cons_self, Nat.add_mul, Nat.one_mul]
        omega
      · have mem : a ∈ ks := by
          rcases List.mem_cons.mp ha with c | c
          · exact absurd c e
          · exact c
        have := ih nd'.2 mem
        rw [List.count_cons_of_ne (fun c => e c)]
        omega
theorem wlk_ends (hs : s.natAbs ≤ M) {n : Nat} {z : Int} (h : Wlk F M s n z) : z ∈ endsW M F s n := by
  induction h with
  | zero =>
    show s ∈ keepIn M [s]
    unfold keepIn
    simp [hs]
  | @step n x z _ h1 h2 ih => exact List.mem_flatMap.mpr ⟨x, ih, List.mem_filter.mpr ⟨h1, decide_eq_true h2⟩⟩
theorem ends_wlk (hs : s.natAbs ≤ M) : ∀ (n : Nat) (z : Int), z ∈ endsW M F s n → Wlk F M s n z
  | 0, z, h => by
    have h : z ∈ keepIn M [s] := h
    unfold keepIn at h
    have := (List.mem_filter.mp h).1
    rw [List.mem_singleton.mp this]
    exact .zero
  | n + 1, z, h => by
    obtain ⟨x, hx, hz⟩ := List.mem_flatMap.mp h
    obtain ⟨h1, h2⟩ := List.mem_filter.mp hz
    exact .step (ends_wlk hs n x hx) h1 (of_decide_eq_true h2)
theorem ends_keys (hs : s.natAbs ≤ M) {n : Nat} {z : Int} (h : z ∈ endsW M F s n) : z ∈ keysE (bfsE M F s) := by
  obtain ⟨y, hy, e, _⟩ := bfs_least hs (ends_wlk hs n z h)
  exact List.mem_map.mpr ⟨y, hy, e⟩
theorem ends_none (hs : M < s.natAbs) (n : Nat) : endsW M F s n = [] := by
  induction n with
  | zero => show keepIn M [s] = []; unfold keepIn; simp; omega
  | succ n ih => show (endsW M F s n).flatMap _ = []; rw [ih]; rfl
end
end My

set_option Elab.async false
set_option linter.all false
set_option maxRecDepth 100000
set_option maxHeartbeats 4000000
set_option exponentiation.threshold 20000
namespace My
open PySem PySem.Spec PyProof.Rows L2
/-- what the top leaves of names that the defs read -/
structure Txt (K : PySem.W.Frag) (mg : Str → Option Value) (t1 t2 t3 : Tok) : Prop where
  f_len : mg "len" = none
  f_isinstance : mg "isinstance" = none
  f_abs : mg "abs" = none
  f_all : mg "all" = none
  f_tuple : mg "tuple" = none
  f_list : mg "list" = none
  f_int : mg "int" = none
  f_max : mg "max" = none
  f_repr : mg "repr" = none
  f_range : mg "range" = none
  f_enumerate : mg "enumerate" = none
  f_reversed : mg "reversed" = none
  f_bool : mg "bool" = none
  f_ValueError : mg "ValueError" = none
  f_sorted : mg "sorted" = none
  f_zip : mg "zip" = none
  f_sum : mg "sum" = none
  f_any : mg "any" = none
  f_divmod : mg "divmod" = none
  f_set : mg "set" = none
  f_dict : mg "dict" = none
  f_min : mg "min" = none
  f_str : mg "str" = none
  f_pow : mg "pow" = none
  g_gcd : mg "gcd" = some (.builtin "math.gcd")
  g_lcm : mg "lcm" = some (.builtin "math.lcm")
  g_GREATEST : mg "GREATEST" = some (.int (10 ^ 60) t1)
  g_MOST_DEGREE : mg "MOST_DEGREE" = some (.int 64 t2)
  g_MOST_STEPS : mg "MOST_STEPS" = some (.int 8 t3)
  g_MOST_LOOKED_AT : ∃ t, mg "MOST_LOOKED_AT" = some (.int 2000 t)
  g_MOST_LENGTH : ∃ t, mg "MOST_LENGTH" = some (.int 60 t)
/-! ### numbers as data -/
def nD (q : Int × Int) : PyData := .tuple [.int q.1, .int q.2]
def sD (s : List (Int × Int)) : PyData := .tuple (s.map nD)
/-- a value that is handed back, data told, nothing changed that was tracked -/
abbrev Told (K : PySem.W.Frag) (N : List Addr) (H : Hp) (d : PyData) (Q : VK) : Prop := ∀ v H', Same H H' → Dp K (cut N H') v d → Q v H'
/-- a new tuple of data -/
theorem told_tup {K : PySem.W.Frag} {N : List Addr} {H H1 : Hp} {p : Addr} {xs : List V} {ds : List PyData} {Q : VK} (k : Told K N H (.tuple ds) Q) (l : Live N H) (s : Same H H1) (n : H1 p = none) (d : DpAll K (cut N H1) xs ds) : Q (.ref p) (upd H1 p (.tup xs)) := by
  have np : p ∉ N := (l.same s).new n
  have s2 := same_new (o := .tup xs) n
  exact k _ _ (s.trans s2) (.tup (.inl (.inl (cut_at np upd_same))) (d.ext (Same.cut N s2)))
theorem dp_two {K : PySem.W.Frag} {H : Hp} {a b : Int} : DpAll K H [.int a, .int b] [.int a, .int b] := .cons (.int a) (.cons (.int b) .nil)
section
variable {P : Program} {w : World} {K : PySem.W.Frag} {mg : Str → Option Value} {base : Heap} {t1 t2 t3 : Tok} {f : Addr} {fd : FuncData}
/-! ### fraction -/
def sp_fraction (K : PySem.W.Frag) : Sp := fun vs H Q _ => ∃ (N : List Addr) (a b : Int), vs = [.int a, .int b] ∧ Live N H ∧ 0 < b ∧ b.natAbs.log2 < 9000 ∧ Told K N H (nD (fr a b)) Q
/-! ### opened -/
theorem dp_num {K : PySem.W.Frag} {H : Hp} {v : V} {q : Int × Int} (h : Dp K H v (nD q)) : ∃ a, v = .ref a ∧ SqT K H a [.int q.1, .int q.2] := by
  obtain ⟨a, xs, rfl, h1, h2⟩ := h.tupI
  cases h2 with
  | cons x y =>
    cases y with
    | cons x2 y2 =>
      cases y2
      rw [x.i, x2.i] at h1
      exact ⟨a, rfl, h1⟩
theorem seq_un {K : PySem.W.Frag} {N : List Addr} {H : Hp} {a : Addr} {xs : List V} (h : SqT K (cut N H) a xs) : SqT K H a xs := Evl.ex_t (cut_same N H) h
theorem seq_same {K : PySem.W.Frag} {H H' : Hp} {a : Addr} {xs : List V} (s : Same H H') (h : SqT K H a xs) : SqT K H' a xs := Evl.ex_t s h
theorem lst_same {K : PySem.W.Frag} {H H' : Hp} {a : Addr} {xs : List V} (s : Same H H') (h : SqL K H a xs) : SqL K H' a xs := Evl.ex_l s h
theorem map_get {α β : Type} {f : α → β} {l : List α} {i : Nat} {y : β} (h : (l.map f)[i]? = some y) : ∃ x, l[i]? = some x ∧ y = f x := by
  rw [List.getElem?_map] at h
  cases e : l[i]? with
  | none => rw [e] at h; cases h
  | some x => rw [e] at h; exact ⟨x, rfl, (Option.some.inj h).symm⟩
theorem take_more {α : Type} {l : List α} {i : Nat} {x : α} (h : l[i]? = some x) : l.take (i + 1) = l.take i ++ [x] := by
  obtain ⟨h1, h2⟩ := List.getElem?_eq_some_iff.mp h
  rw [← h2]
  exact (List.take_append_getElem h1).symm
theorem mem_of_get {α : Type} {l : List α} {i : Nat} {x : α} (h : l[i]? = some x) : x ∈ l := List.mem_of_getElem? h
/-- a number of a step, read at its place -/
theorem step_at {K : PySem.W.Frag} {H : Hp} {xs : List V} {s : List (Int × Int)} {i : Nat} {x : V} (d : DpAll K H xs (s.map nD)) (h : xs[i]? = some x) : ∃ q a, s[i]? = some q ∧ x = .ref a ∧ SqT K H a [.int q.1, .int q.2] := by
  obtain ⟨e, h1, h2⟩ := d.get' h
  obtain ⟨q, h3, rfl⟩ := map_get h1
  obtain ⟨a, rfl, h4⟩ := dp_num h2
  exact ⟨q, a, h3, rfl, h4⟩
/-- bits of a step's numbers: tb above, pb below the line -/
structure Fit (tb pb : Nat) (s : List (Int × Int)) : Prop where
  pos : ∀ q ∈ s, 0 < q.2
  top : ∀ q ∈ s, q.1.natAbs < 2 ^ tb
  bot : ∀ q ∈ s, q.2.natAbs < 2 ^ pb
theorem lcm_take {pb : Nat} {s : List (Int × Int)} (h : ∀ q ∈ s, q.2.natAbs < 2 ^ pb) (i : Nat) : lcmL (s.take i) < 2 ^ (pb * s.length + 1) := by
  have h1 := lcmL_lt (s.take i) fun q hq => h q (List.mem_of_mem_take hq)
  refine Nat.lt_of_lt_of_le h1 (Nat.pow_le_pow_right (by decide) ?_)
  have : (s.take i).length ≤ s.length := by rw [List.length_take]; omega
  have := Nat.mul_le_mul_left pb this
  omega
def sp_opened (K : PySem.W.Frag) : Sp := fun vs H Q _ => ∃ (N : List Addr) (s : List (Int × Int)) (v : V) (tb pb : Nat), vs = [v] ∧ Live N H ∧ Dp K (cut N H) v (sD s) ∧ Fit tb pb s ∧ pb * s.length + pb + tb ≤ 8000 ∧ s.length ≤ 1000 ∧
  Told K N H (.tuple [.list ((tops s).map PyData.int), .int (lcmL s)]) Q
theorem ok_opened (F : Fun K "opened" "opened" s_opened f fd) (T : Txt K mg t1 t2 t3) : FnOk P w K mg base CX0 1 f fd ["numbers"] (sp_opened K) := by
  refine F.ok sc_opened (fun vs H Q E h => ?_) (fun cdv A outer s H vs Q E hr h => ?_)
  · obtain ⟨N, s, v, tb, pb, rfl, _⟩ := h
    rfl
  · obtain ⟨N, s, v, tb, pb, rfl, l, hv, fit, hz, hlen, k⟩ := h
    obtain ⟨a, xs, rfl, hS, hD⟩ := hv.tupI
    have hlx : xs.length = s.length := by rw [hD.length, List.length_map]
    refine ⟨_, (pss_cons (ps_set (i := 1) sc_opened.nd rfl (Or.inr rfl) pe_int)
      (pss_cons (ps_for PassesOwn.never rfl (pi_tup (pv 0)) (pg_tup rfl (pgs_cons (pg_name (i := 2) sc_opened.nd rfl (Or.inl rfl)) (pgs_cons (pg_name (i := 3) sc_opened.nd rfl (Or.inl rfl)) pgs_nil)))
      (pss_one (ps_set (i := 1) sc_opened.nd rfl (Or.inr rfl) (pe_callBfun cr_lcm (by rfl) T.g_lcm (pa_cons (pv 1) (pa_cons (pv 3) pa_nil))))))
      (pss_one (ps_ret (pe_tup (pa_cons (pe_lc (own := [("top", 4), ("part", 3)]) (g := gTup K 2 (gCons (gName 4) (gCons (gName 3) gNil))) rfl sc_opened.nd (pi_tup (pv 0)) (blkOk_by (N := ["numbers", "bottom", "_", "part", "top"]) (sc := defScope s_opened) (by decide +kernel)) (fun _ _ _ _ _ => by exact (pg_tup rfl (pgs_cons (pg_name (i := 4) sc_opened.nd rfl (Or.inl rfl)) (pgs_cons (pg_name (i := 3) sc_opened.nd rfl (Or.inl rfl)) pgs_nil)))) (fun _ _ _ _ _ => by exact pts_nil) (fun _ _ _ _ _ => by exact (pe_op op_mulW (pv 4) (pe_op op_fdivW (pv 1) (pv 3))))) (pa_cons (pv 1) pa_nil))))))), ?_⟩
    refine ⟨_, rfl, a, rfl, ⟨_, seq_un hS⟩, for_tup (K := K) (a := a) (xs := xs) (fun i σ H' => H' = H ∧ ∃ o1 o2, σ = [some (.ref a), some (.int (lcmL (s.take i))), o1, o2, none])
      ⟨rfl, _, _, rfl⟩ (fun i σ H' _ h => h.1 ▸ seq_un hS) ?_ ?_⟩
    · rintro i x σ H' hx ⟨rfl, o1, o2, rfl⟩
      obtain ⟨q, b, hq, rfl, hb⟩ := step_at hD hx
      refine ⟨b, _, rfl, seq_un hb, rfl, _, _, rfl, _, _, rfl, rfl, ?_⟩
      refine ⟨_, rfl, _, rfl, _, _, rfl, ?_, ?_, rfl, some (.int q.1), some (.int q.2), ?_⟩
      · rw [Int.natAbs_natCast]
        exact log_of (by decide) (Nat.lt_of_lt_of_le (lcm_take fit.bot i) (Nat.pow_le_pow_right (by decide) (by omega)))
      · refine log_of (by decide) (Nat.lt_of_lt_of_le (fit.bot q (mem_of_get hq)) (Nat.pow_le_pow_right (by decide) ?_))
        omega
      · rw [take_more hq, lcmL_snoc, Int.natAbs_natCast]
        rfl
    · rintro σ H' ⟨rfl, o1, o2, rfl⟩
      rw [hlx, List.take_length]
      refine ⟨_, rfl, a, rfl, ⟨_, seq_un hS⟩, fun D hD' => ?_⟩
      have nD' := l.new hD'
      refine lc_tup (K := K) (a := a) (xs := xs) (fun i H1 => H1 = upd H' D (.lst (((tops s).take i).map V.int))) rfl (fun i H1 _ h => h ▸ seq_same (same_new hD') (seq_un hS)) ?_ ?_
      · rintro i x H1 hx rfl
        obtain ⟨q, b, hq, rfl, hb⟩ := step_at hD hx
        have hq0 := fit.pos q (mem_of_get hq)
        have ht : (tops s)[i]? = some (q.1 * ((lcmL s : Int) / q.2)) := by
          unfold tops
          rw [List.getElem?_map, hq]
          rfl
        have hlc := lcmL_lt s fit.bot
        have hi := (List.getElem?_eq_some_iff.mp hx).1
        refine ⟨b, _, rfl, seq_same (same_new hD') (seq_un hb), rfl, _, _, rfl, _, _, rfl, rfl, rfl, ?_⟩
        refine ⟨_, rfl, _, rfl, _, rfl, _, _, rfl, rfl, wide_div hq0 (b := pb + 1) (Nat.lt_of_lt_of_le (fit.bot q (mem_of_get hq)) (Nat.pow_le_pow_right (by decide) (by omega))) (by omega) (by omega), _, _, rfl, rfl, ?_, ?_⟩
        · refine wide_mul (a := tb + 1) (b := pb * s.length + 1) (Nat.lt_of_lt_of_le (fit.top q (mem_of_get hq)) (Nat.pow_le_pow_right (by decide) (by omega))) (Nat.lt_of_le_of_lt (natAbs_div_le _ _) (by rw [Int.natAbs_natCast]; exact hlc)) (by omega) (by omega) (by omega)
        · refine ⟨_, upd_same, ?_, ?_⟩
          · rw [List.length_map, List.length_take]
            exact small1000 (by omega)
          · rw [upd_upd, take_more ht, List.map_append]
            rfl
      · rintro H1 rfl
        have e : (tops s).take xs.length = tops s := List.take_of_length_le (by unfold tops; rw [List.length_map, hlx]; exact Nat.le_refl _)
        rw [e]
        refine ⟨_, rfl, (by show 2 ≤ sizeLine; decide), fun p hp => ?_⟩
        refine told_tup k l (same_new hD') hp (.cons (.lst (.inl (.inl (cut_at nD' upd_same))) (DpAll.ints _)) (.cons (.int _) .nil))
/-! ### value_of -/
theorem for_rev {K : PySem.W.Frag} {a : Addr} {xs : List V} {g : TG} {tb : TS} {D : Ends} {σ : L2.St} {H : Hp} (Pv : Nat → L2.St → Hp → Prop) (h0 : Pv 0 σ H) (hl : ∀ i σ H, Pv i σ H → SqL K H a xs)
    (hs : ∀ i x σ H, i < xs.length → xs[xs.length - 1 - i]? = some x → Pv i σ H → g x σ H fun σ2 H2 => tb { D with nx := Pv (i + 1), ct := Pv (i + 1), bk := D.nx } σ2 H2) (hd : ∀ σ H, Pv xs.length σ H → D.nx σ H) :
    ∃ W : Nat → Nat → L2.St → Hp → Prop, (∃ m, W 0 m σ H) ∧ ∀ i m σ H, W i m σ H →
      ((Itv K a xs.length).stop i H ∧ D.nx σ H) ∨ ((Itv K a xs.length).go i H ∧ ∃ N : L2.St → Hp → Prop, (∀ σ' H', N σ' H' → ∃ m', m' < m ∧ W (i + 1) m' σ' H') ∧
        ∀ x H', (Itv K a xs.length).yld i H x H' → g x σ H' fun σ2 H2 => tb { D with nx := N, ct := N, bk := D.nx } σ2 H2) := by
  refine ⟨fun i m σ H => m = xs.length - i ∧ i ≤ xs.length ∧ Pv i σ H, ⟨xs.length, by simp, Nat.zero_le _, h0⟩, ?_⟩
  rintro i m σ H ⟨rfl, hi, p⟩
  have q := hl i σ H p
  by_cases hlt : i < xs.length
  · have hx : xs[xs.length - 1 - i]? = some (xs[xs.length - 1 - i]'(by omega)) := List.getElem?_eq_getElem _
    refine .inr ⟨⟨hlt, xs, _, q, hx⟩, Pv (i + 1), fun σ' H' p' => ⟨xs.length - (i + 1), by omega, rfl, hlt, p'⟩, fun x H' y => ?_⟩
    obtain ⟨rfl, y⟩ := y
    exact hs i x σ H' hlt (y xs q) p
  · have e : i = xs.length := by omega
    subst e
    exact .inl ⟨Nat.le_refl _, hd σ H p⟩
theorem dp_ints {K : PySem.W.Frag} {H : Hp} : ∀ {xs : List V} {ns : List Int}, DpAll K H xs (ns.map PyData.int) → xs = ns.map V.int
  | _, [], h => by cases h; rfl
  | _, n :: ns, h => by
    cases h with
    | cons x y => rw [x.i, dp_ints y]; rfl
theorem horn_lt {xn xd head : Int} {t n : Nat} (hn : xn.natAbs < 2 ^ n) (hd : xd.natAbs < 2 ^ n) (hh : head.natAbs < 2 ^ t) (rest : List Int) (hr : ∀ z ∈ rest, z.natAbs < 2 ^ t) :
    (horn xn xd head rest).1.natAbs < 2 ^ (t + (n + 1) * rest.length + 1) ∧ (horn xn xd head rest).2.natAbs < 2 ^ (n * rest.length + 1) := by
  revert hr
  refine snoc_ind rest ?_ ?_
  · intro _
    refine ⟨Nat.lt_of_lt_of_le hh (Nat.pow_le_pow_right (by decide) (by simp)), by simp [horn]⟩
  · intro l z ih hr
    obtain ⟨h1, h2⟩ := ih fun y hy => hr y (List.mem_append_left _ hy)
    have hz := hr z (List.mem_append_right _ List.mem_cons_self)
    rw [horn_snoc, List.length_append, List.length_singleton]
    have s2 : ((horn xn xd head l).2 * xd).natAbs < 2 ^ (n * (l.length + 1) + 1) := by
      rw [Int.natAbs_mul]
      have := Nat.mul_lt_mul'' h2 hd
      rw [← Nat.pow_add] at this
      rwa [show n * (l.length + 1) + 1 = n * l.length + 1 + n by rw [Nat.mul_add]; omega]
    refine ⟨?_, s2⟩
    show ((horn xn xd head l).1 * xn + z * ((horn xn xd head l).2 * xd)).natAbs < _
    have a1 : ((horn xn xd head l).1 * xn).natAbs < 2 ^ (t + (n + 1) * (l.length + 1)) := by
      rw [Int.natAbs_mul]
      have := Nat.mul_lt_mul'' h1 hn
      rw [← Nat.pow_add] at this
      rwa [show t + (n + 1) * (l.length + 1) = t + (n + 1) * l.length + 1 + n by rw [Nat.mul_add]; omega]
    have a2 : (z * ((horn xn xd head l).2 * xd)).natAbs < 2 ^ (t + (n + 1) * (l.length + 1)) := by
      rw [Int.natAbs_mul]
      have := Nat.mul_lt_mul'' hz s2
      rw [← Nat.pow_add] at this
      refine Nat.lt_of_lt_of_le this (Nat.pow_le_pow_right (by decide) ?_)
      have : (n + 1) * (l.length + 1) = n * (l.length + 1) + (l.length + 1) := by rw [Nat.add_mul, Nat.one_mul]
      omega
    have a3 := Int.natAbs_add_le ((horn xn xd head l).1 * xn) (z * ((horn xn xd head l).2 * xd))
    rw [Nat.pow_succ]
    omega
def sp_value_of (K : PySem.W.Frag) : Sp := fun vs H Q _ => ∃ (N : List Addr) (s : List (Int × Int)) (x : Int × Int) (v u : V) (tb pb nb : Nat), vs = [v, u] ∧ Live N H ∧ Dp K (cut N H) v (sD s) ∧ Dp K (cut N H) u (nD x) ∧
  Fit tb pb s ∧ s ≠ [] ∧ 0 < x.2 ∧ x.1.natAbs < 2 ^ nb ∧ x.2.natAbs < 2 ^ nb ∧ pb * s.length + pb + tb + (nb + 1) * s.length ≤ 8000 ∧ s.length ≤ 1000 ∧ Told K N H (nD (valOf s x)) Q
end
end My

set_option Elab.async false
set_option linter.all false
set_option maxRecDepth 100000
set_option maxHeartbeats 4000000
set_option exponentiation.threshold 20000
namespace My
open PySem PySem.Spec PyProof.Rows L2
/-! ### what is a number, a step -/
def tyn : PyData → String
  | .none => "NoneType" | .bool _ => "bool" | .int _ => "int" | .str _ => "str" | .list _ => "list" | .tuple _ => "tuple" | .dict _ => "dict"
theorem ty_tup {K : PySem.W.Frag} {H : Hp} {a : Addr} {xs : List V} (h : SqT K H a xs) : TyX K H (.ref a) (.type "tuple") := by
  rcases h with (h | ⟨o, h⟩) | ⟨o, its, n, h, c, _⟩
  · exact .base (.tup h)
  · exact .fTuple h
  · exact .kTuple h c
theorem ty_lst {K : PySem.W.Frag} {H : Hp} {a : Addr} {xs : List V} (h : SqL K H a xs) : TyX K H (.ref a) (.type "list") := by
  rcases h with (h | ⟨o, h⟩) | ⟨o, its, n, h, c, _⟩
  · exact .base (.lst h)
  · exact .base (.frz h)
  · exact .kList h c
theorem ty_dp {K : PySem.W.Frag} {H : Hp} {v : V} {d : PyData} (h : Dp K H v d) : TyX K H v (.type (tyn d)) := by
  cases h with
  | non => exact .base .non
  | bl b => exact .base (.bl b)
  | int i => exact .base (.int i)
  | str x => exact .base (.str x)
  | lst a b => exact ty_lst a
  | tup a b => exact ty_tup a
theorem noDict_dp {K : PySem.W.Frag} {H : Hp} {v : V} {d : PyData} (h : Dp K H v d) : ∀ kvs, d ≠ .dict kvs := by
  intro kvs e
  subst e
  cases h
def isI : PyData → Bool
  | .int _ => true
  | _ => false
def isTup : PyData → Bool
  | .tuple _ => true
  | _ => false
theorem kit_tuple {K : PySem.W.Frag} {d : PyData} (h : ∀ kvs, d ≠ .dict kvs) : PySem.W.kitOne K (.type (tyn d)) (.type "tuple") = some (isTup d) := by
  cases d with
  | dict k => exact absurd rfl (h k)
  | none => exact kit_ty (show kitB "NoneType" "tuple" = some false by decide +kernel)
  | bool _ => exact kit_ty (show kitB "bool" "tuple" = some false by decide +kernel)
  | int _ => exact kit_ty (show kitB "int" "tuple" = some false by decide +kernel)
  | str _ => exact kit_ty (show kitB "str" "tuple" = some false by decide +kernel)
  | list _ => exact kit_ty (show kitB "list" "tuple" = some false by decide +kernel)
  | tuple _ => exact kit_ty (show kitB "tuple" "tuple" = some true by decide +kernel)
theorem kit_int {K : PySem.W.Frag} {d : PyData} (h : ∀ kvs, d ≠ .dict kvs) : ∃ b c, PySem.W.kitOne K (.type (tyn d)) (.type "int") = some b ∧ PySem.W.kitOne K (.type (tyn d)) (.type "bool") = some c ∧ isI d = (b && !c) := by
  cases d with
  | dict k => exact absurd rfl (h k)
  | none => exact ⟨false, false, kit_ty (show kitB "NoneType" "int" = some false by decide +kernel), kit_ty (show kitB "NoneType" "bool" = some false by decide +kernel), rfl⟩
  | bool x => exact ⟨true, true, kit_ty (show kitB "bool" "int" = some true by decide +kernel), kit_ty (show kitB "bool" "bool" = some true by decide +kernel), rfl⟩
  | int x => exact ⟨true, false, kit_ty (show kitB "int" "int" = some true by decide +kernel), kit_ty (show kitB "int" "bool" = some false by decide +kernel), rfl⟩
  | str x => exact ⟨false, false, kit_ty (show kitB "str" "int" = some false by decide +kernel), kit_ty (show kitB "str" "bool" = some false by decide +kernel), rfl⟩
  | list x => exact ⟨false, false, kit_ty (show kitB "list" "int" = some false by decide +kernel), kit_ty (show kitB "list" "bool" = some false by decide +kernel), rfl⟩
  | tuple x => exact ⟨false, false, kit_ty (show kitB "tuple" "int" = some false by decide +kernel), kit_ty (show kitB "tuple" "bool" = some false by decide +kernel), rfl⟩
def okNum (n d : Int) : Bool := decide (-(10 ^ 60) ≤ n) && (decide (n ≤ 10 ^ 60) && (decide (1 ≤ d) && (decide (d ≤ 10 ^ 60) && decide (gc n d = 1))))
def isNum : PyData → Bool
  | .tuple [.int n, .int d] => okNum n d
  | _ => false
def isStep : PyData → Bool
  | .tuple ds => decide (2 ≤ ds.length) && (decide (ds.length ≤ 65) && (ds.all isNum && !PyData.eqv (ds.getLast?.getD .none) (.tuple [.int 0, .int 1])))
  | _ => false
theorem isStep_tup (ds : List PyData) : isStep (.tuple ds) = (decide (2 ≤ ds.length) && (decide (ds.length ≤ 65) && (ds.all isNum && !PyData.eqv (ds.getLast?.getD .none) (.tuple [.int 0, .int 1])))) := rfl
section
variable {P : Program} {w : World} {K : PySem.W.Frag} {mg : Str → Option Value} {base : Heap} {t1 t2 t3 : Tok} {f : Addr} {fd : FuncData}
def sp_is_integer (K : PySem.W.Frag) : Sp := fun vs H Q _ => ∃ (v : V) (d : PyData), vs = [v] ∧ Dp K H v d ∧ Q (.bl (isI d)) H
theorem ok_is_integer (F : Fun K "is_integer" "is_integer" s_is_integer f fd) (T : Txt K mg t1 t2 t3) : FnOk P w K mg base CX0 1 f fd ["value"] (sp_is_integer K) := by
  refine F.ok sc_is_integer (fun vs H Q E h => ?_) (fun cdv A outer s H vs Q E hr h => ?_)
  · obtain ⟨v, d, rfl, _⟩ := h
    rfl
  · obtain ⟨v, d, rfl, hd, k⟩ := h
    obtain ⟨b, c, h1, h2, e⟩ := kit_int (K := K) (noDict_dp hd)
    rw [e] at k
    refine ⟨_, (pss_one (ps_ret (pe_and (pe_callB call_isi (by rfl) T.f_isinstance (by decide +kernel) (pa_cons (pv 0) (pa_cons (pe_bltn (v := .ty "int") rfl T.f_int (by decide +kernel) rfl) pa_nil))) (pe_one (pe_not (pe_callB call_isi (by rfl) T.f_isinstance (by decide +kernel) (pa_cons (pv 0) (pa_cons (pe_bltn (v := .ty "bool") rfl T.f_bool (by decide +kernel) rfl) pa_nil)))))))), ?_⟩
    refine ⟨_, rfl, _, _, _, _, b, rfl, .ty "int", ty_dp hd, h1, b, rfl, ?_⟩
    cases b with
    | true => exact ⟨_, rfl, _, _, _, _, c, rfl, .ty "bool", ty_dp hd, h2, c, rfl, k⟩
    | false => exact k
def sp_is_number (K : PySem.W.Frag) : Sp := fun vs H Q _ => ∃ (v : V) (d : PyData), vs = [v] ∧ Dp K H v d ∧ Q (.bl (isNum d)) H
theorem dp_twoI {K : PySem.W.Frag} {H : Hp} {xs : List V} {ds : List PyData} (h : DpAll K H xs ds) (h2 : ds.length = 2) : ∃ x y d e, xs = [x, y] ∧ ds = [d, e] ∧ Dp K H x d ∧ Dp K H y e := by
  match ds, h2, h with
  | [d, e], _, .cons a (.cons b .nil) => exact ⟨_, _, _, _, rfl, rfl, a, b⟩
theorem isNum_len {ds : List PyData} (h : ds.length ≠ 2) : isNum (.tuple ds) = false := by
  unfold isNum
  split
  · rename_i e
    cases e
    exact absurd rfl h
  · rfl
theorem isNum_not {d e : PyData} (h : (isI d && isI e) = false) : isNum (.tuple [d, e]) = false := by
  cases d <;> cases e <;> first | rfl | (simp [isI] at h)
theorem ok_is_number (F : Fun K "is_number" "is_number" s_is_number f fd) (T : Txt K mg t1 t2 t3) (C_is_integer : Ce P w K mg base CX0 1 "is_integer" ["value"] (sp_is_integer K)) : FnOk P w K mg base CX0 2 f fd ["value"] (sp_is_number K) := by
  refine F.ok sc_is_number (fun vs H Q E h => ?_) (fun cdv A outer s H vs Q E hr h => ?_)
  · obtain ⟨v, d, rfl, _⟩ := h
    rfl
  · obtain ⟨v, d, rfl, hd, k⟩ := h
    refine ⟨_, (pss_cons (ps_if (PW.pt (pw_or (pt_not (pt_val (pe_callB call_isi (by rfl) T.f_isinstance (by decide +kernel) (pa_cons (pv 0) (pa_cons (pe_bltn (v := .ty "tuple") rfl T.f_tuple (by decide +kernel) rfl) pa_nil))))) (pw_or1 (pt_cmpR op_ne (pe_callB call_len_seq (by rfl) T.f_len (by decide +kernel) (pa_cons (pv 0) pa_nil)) pe_int (nomark _))))) (pss_one (ps_ret pe_bl)) pss_nil)
      (pss_cons (ps_asg (pv 0) (pg_tup rfl (pgs_cons (pg_name (i := 1) sc_is_number.nd rfl (Or.inl rfl)) (pgs_cons (pg_name (i := 2) sc_is_number.nd rfl (Or.inl rfl)) pgs_nil))))
      (pss_cons (ps_if (PW.pt (pw_or (pt_not (pt_val (pe_ce C_is_integer (hr.mono (by decide)) pass0 (pa_cons (pv 1) pa_nil)))) (pw_or1 (pt_not (pt_val (pe_ce C_is_integer (hr.mono (by decide)) pass0 (pa_cons (pv 2) pa_nil))))))) (pss_one (ps_ret pe_bl)) pss_nil)
      (pss_cons (ps_if (PW.pt (pw_or (pt_cmpR op_gt (pe_callB call_abs (by rfl) T.f_abs (by decide +kernel) (pa_cons (pv 1) pa_nil)) (pe_glob (v := .int (10 ^ 60)) rfl T.g_GREATEST ⟨_, rfl⟩) (nomark _)) (pw_or (pt_cmpR op_lt (pv 2) pe_int (nomark _)) (pw_or1 (pt_cmpR op_gt (pv 2) (pe_glob (v := .int (10 ^ 60)) rfl T.g_GREATEST ⟨_, rfl⟩) (nomark _)))))) (pss_one (ps_ret pe_bl)) pss_nil)
      (pss_one (ps_ret (pe_cmpR op_eq (pe_callBfun cr_gcd (by rfl) T.g_gcd (pa_cons (pv 1) (pa_cons (pv 2) pa_nil))) pe_int (nomark _)))))))), ?_⟩
    refine ⟨_, rfl, _, _, _, _, isTup d, rfl, .ty "tuple", ty_dp hd, kit_tuple (noDict_dp hd), isTup d, rfl, ?_⟩
    cases hd with
    | non => exact k
    | bl b => exact k
    | int i => exact k
    | str x => exact k
    | lst a b => exact k
    | @tup a xs ds hS hD =>
      refine iteF ?_
      refine ⟨_, rfl, a, xs, rfl, .inr hS, rfl, _, rfl, ?_⟩
      have el : xs.length = ds.length := hD.length
      by_cases h2 : ds.length = 2
      · have e2 : (!decide (V.int (xs.length : Int) = V.int 2)) = false := by rw [el, h2]; rfl
        rw [e2]
        refine iteF ?_
        obtain ⟨x, y, d, e, rfl, rfl, hx, hy⟩ := dp_twoI hD h2
        refine ⟨_, rfl, a, _, rfl, hS, rfl, _, _, rfl, _, _, rfl, rfl, ?_⟩
        refine ⟨_, rfl, x, d, rfl, hx, isI d, rfl, ?_⟩
        cases hd1 : isI d with
        | false =>
          rw [isNum_not (by rw [hd1]; rfl)] at k
          exact k
        | true =>
          refine iteF ?_
          refine ⟨_, rfl, y, e, rfl, hy, isI e, rfl, ?_⟩
          cases he1 : isI e with
          | false =>
            rw [isNum_not (by rw [he1, Bool.and_false])] at k
            exact k
          | true =>
            refine iteF ?_
            obtain ⟨n, rfl⟩ : ∃ n, d = .int n := by cases d <;> first | exact ⟨_, rfl⟩ | cases hd1
            obtain ⟨m, rfl⟩ : ∃ n, e = .int n := by cases e <;> first | exact ⟨_, rfl⟩ | cases he1
            cases hx
            cases hy
            have ek : isNum (.tuple [.int n, .int m]) = okNum n m := rfl
            rw [ek] at k
            refine ⟨_, rfl, _, rfl, _, _, rfl, rfl, _, rfl, ?_⟩
            by_cases c1 : (10 : Int) ^ 60 < (if n < 0 then -n else n)
            · rw [decide_eq_true c1]
              have : okNum n m = false := by
                unfold okNum
                by_cases z : n < 0
                · rw [if_pos z] at c1
                  rw [decide_eq_false (show ¬ -(10 ^ 60) ≤ n by omega)]
                  rfl
                · rw [if_neg z] at c1
                  rw [decide_eq_false (show ¬ n ≤ 10 ^ 60 by omega), Bool.false_and, Bool.and_false]
              rw [this] at k
              exact k
            · rw [decide_eq_false c1]
              refine iteF ?_
              refine ⟨_, rfl, _, _, rfl, rfl, _, rfl, ?_⟩
              by_cases c2 : m < 1
              · rw [decide_eq_true c2]
                have : okNum n m = false := by
                  unfold okNum
                  rw [decide_eq_false (show ¬ 1 ≤ m by omega)]
                  simp
                rw [this] at k
                exact k
              · rw [decide_eq_false c2]
                refine iteF ?_
                refine ⟨_, rfl, _, _, rfl, rfl, _, rfl, ?_⟩
                by_cases c3 : (10 : Int) ^ 60 < m
                · rw [decide_eq_true c3]
                  have : okNum n m = false := by
                    unfold okNum
                    rw [decide_eq_false (show ¬ m ≤ 10 ^ 60 by omega)]
                    simp
                  rw [this] at k
                  exact k
                · rw [decide_eq_false c3]
                  refine iteF ?_
                  refine ⟨_, rfl, _, rfl, _, _, rfl, rfl, ?_⟩
                  have : okNum n m = decide (V.int (((Nat.gcd n.natAbs m.natAbs : Nat)) : Int) = V.int 1) := by
                    unfold okNum
                    have z1 : -(10 ^ 60) ≤ n := by
                      by_cases z : n < 0
                      · rw [if_pos z] at c1; omega
                      · omega
                    have z2 : n ≤ 10 ^ 60 := by
                      by_cases z : n < 0
                      · omega
                      · rw [if_neg z] at c1; omega
                    rw [decide_eq_true z1, decide_eq_true z2, decide_eq_true (show 1 ≤ m by omega), decide_eq_true (show m ≤ 10 ^ 60 by omega)]
                    show decide (gc n m = 1) = _
                    by_cases z : gc n m = 1
                    · rw [decide_eq_true z]
                      exact (decide_eq_true (congrArg V.int z)).symm
                    · rw [decide_eq_false z]
                      exact (decide_eq_false (fun q => z (V.int.inj q))).symm
                  rw [this] at k
                  exact k
      · have e2 : (!decide (V.int (xs.length : Int) = V.int 2)) = true := by
          rw [el, decide_eq_false (fun q => h2 (by have := V.int.inj q; omega))]
          rfl
        rw [e2]
        rw [isNum_len h2] at k
        exact k
/-! ### is_step -/
def sp_is_step (K : PySem.W.Frag) : Sp := fun vs H Q _ => ∃ (N : List Addr) (v : V) (d : PyData), vs = [v] ∧ Live N H ∧ Dp K (cut N H) v d ∧ ∀ H', Same H H' → Q (.bl (isStep d)) H'
theorem shaped_num : SeqAt.shaped (.tuple [.int 0, .int 1]) = true := by decide
theorem isNum_shape {d : PyData} (h : isNum d = true) : ∃ n m, d = .tuple [.int n, .int m] ∧ okNum n m = true := by
  unfold isNum at h
  split at h
  · exact ⟨_, _, rfl, h⟩
  · cases h
theorem shaped_of_num {d : PyData} (h : isNum d = true) : SeqAt.shaped d = true := by
  obtain ⟨n, m, rfl, _⟩ := isNum_shape h
  rfl
theorem ok_is_step (F : Fun K "is_step" "is_step" s_is_step f fd) (T : Txt K mg t1 t2 t3) (C_is_number : Ce P w K mg base CX0 2 "is_number" ["value"] (sp_is_number K)) : FnOk P w K mg base CX0 3 f fd ["value"] (sp_is_step K) := by
  refine F.ok sc_is_step (fun vs H Q E h => ?_) (fun cdv A outer s H vs Q E hr h => ?_)
  · obtain ⟨N, v, d, rfl, _⟩ := h
    rfl
  · obtain ⟨N, v, d, rfl, l, hdc, k⟩ := h
    refine ⟨_, (pss_cons (ps_if (PW.pt (pw_or (pt_not (pt_val (pe_callB call_isi (by rfl) T.f_isinstance (by decide +kernel) (pa_cons (pv 0) (pa_cons (pe_bltn (v := .ty "tuple") rfl T.f_tuple (by decide +kernel) rfl) pa_nil))))) (pw_or (pt_cmpR op_lt (pe_callB call_len_seq (by rfl) T.f_len (by decide +kernel) (pa_cons (pv 0) pa_nil)) pe_int (nomark _)) (pw_or1 (pt_cmpR op_gt (pe_callB call_len_seq (by rfl) T.f_len (by decide +kernel) (pa_cons (pv 0) pa_nil)) (pe_op op_add (pe_glob (v := .int 64) rfl T.g_MOST_DEGREE ⟨_, rfl⟩) pe_int) (nomark _)))))) (pss_one (ps_ret pe_bl)) pss_nil)
      (pss_one (ps_ret (pe_and (pe_callB (cr_all rfl) (by rfl) T.f_all (by decide +kernel) (pa_cons (pe_lc (own := [("number", 1)]) (g := gName 1) rfl sc_is_step.nd (pi_tup (pv 0)) (blkOk_by (N := ["value", "number"]) (sc := defScope s_is_step) (by decide +kernel)) (fun _ _ _ _ _ => by exact (pg_name (i := 1) sc_is_step.nd rfl (Or.inl rfl))) (fun _ _ _ _ _ => by exact pts_nil) (fun _ _ _ _ _ => by exact (pe_ce C_is_number (hr.mono (by decide)) pass0 (pa_cons (pv 1) pa_nil)))) pa_nil)) (pe_one (pe_cmpR (op_neD (un64 hr)) (pe_ix ix_tup (pv 0) (pe_un un_neg pe_int) (fun _ _ => rfl)) (pe_tup (pa_cons pe_int (pa_cons pe_int pa_nil))) (nomark _))))))), ?_⟩
    have hd := hdc.un
    refine ⟨_, rfl, _, _, _, _, isTup d, rfl, .ty "tuple", ty_dp hd, kit_tuple (noDict_dp hd), isTup d, rfl, ?_⟩
    cases hdc with
    | non => exact k H (Same.refl H)
    | bl b => exact k H (Same.refl H)
    | int i => exact k H (Same.refl H)
    | str x => exact k H (Same.refl H)
    | lst a b => exact k H (Same.refl H)
    | @tup a xs ds hSc hDc =>
      have hS := seq_un hSc
      have hD := hDc.un
      have el : xs.length = ds.length := hD.length
      refine iteF ?_
      refine ⟨_, rfl, a, xs, rfl, .inr hS, _, _, rfl, rfl, _, rfl, ?_⟩
      by_cases c1 : (xs.length : Int) < 2
      · rw [decide_eq_true c1]
        have : isStep (.tuple ds) = false := by
          rw [isStep_tup]
          rw [decide_eq_false (show ¬ 2 ≤ ds.length by omega)]
          rfl
        rw [this] at k
        exact k H (Same.refl H)
      · rw [decide_eq_false c1]
        refine iteF ?_
        refine ⟨_, rfl, a, xs, rfl, .inr hS, _, _, rfl, rfl, _, _, rfl, rfl, _, rfl, ?_⟩
        by_cases c2 : (64 + 1 : Int) < (xs.length : Int)
        · rw [decide_eq_true c2]
          have : isStep (.tuple ds) = false := by
            rw [isStep_tup]
            rw [decide_eq_false (show ¬ ds.length ≤ 65 by omega)]
            simp
          rw [this] at k
          exact k H (Same.refl H)
        · rw [decide_eq_false c2]
          refine iteF ?_
          have es : isStep (.tuple ds) = (ds.all isNum && !PyData.eqv (ds.getLast?.getD .none) (.tuple [.int 0, .int 1])) := by
            rw [isStep_tup]
            rw [decide_eq_true (show 2 ≤ ds.length by omega), decide_eq_true (show ds.length ≤ 65 by omega)]
            rfl
          rw [es] at k
          refine ⟨_, rfl, a, rfl, ⟨_, hS⟩, fun D hD' => ?_⟩
          refine lc_tup (K := K) (a := a) (xs := xs) (fun i H1 => H1 = upd H D (.lst ((ds.take i).map fun d => V.bl (isNum d)))) rfl (fun i H1 _ h => h ▸ seq_same (same_new hD') hS) ?_ ?_
          · rintro i x H1 hx rfl
            obtain ⟨e, h1, h2⟩ := hD.get' hx
            have hi := (List.getElem?_eq_some_iff.mp hx).1
            refine ⟨rfl, _, rfl, x, e, rfl, h2.ext (same_new hD'), _, upd_same, ?_, ?_⟩
            · rw [List.length_map, List.length_take]
              exact small1000 (by omega)
            · rw [upd_upd, take_more h1, List.map_append]
              rfl
          · rintro H1 rfl
            rw [el, List.take_length]
            refine ⟨D, ds.map isNum, rfl, .inl (.inl (by rw [upd_same, List.map_map]; rfl)), _, rfl, ?_⟩
            have eall : (ds.map isNum).all id = ds.all isNum := by rw [List.all_map]; rfl
            rw [eall]
            cases hall : ds.all isNum with
            | false =>
              rw [hall] at k
              exact k _ (same_new hD')
            | true =>
              refine iteT ?_
              rw [hall, Bool.true_and] at k
              have hne : ds ≠ [] := by
                intro z
                rw [z] at el
                rw [el] at c1
                simp at c1
              obtain ⟨ds', z, rfl⟩ : ∃ ds' z, ds = ds' ++ [z] := ⟨_, _, (List.dropLast_concat_getLast hne).symm⟩
              have hz : isNum z = true := List.all_eq_true.mp hall z (List.mem_append_right _ List.mem_cons_self)
              have el2 : (ds' ++ [z])[ds'.length]? = some z := by simp
              obtain ⟨y, hy, dy⟩ := hDc.get el2
              have hxl : xs.length = ds'.length + 1 := by rw [el]; simp
              have hxs : atI xs (-1) = some y := by
                have hne2 : xs ≠ [] := by intro q; rw [q] at hxl; simp at hxl
                rw [← List.dropLast_concat_getLast hne2]
                have : xs.getLast hne2 = y := by
                  rw [List.getLast_eq_getElem]
                  have h3 := List.getElem?_eq_some_iff.mp hy
                  obtain ⟨h4, h5⟩ := h3
                  rw [← h5]
                  congr 1
                  omega
                rw [this]
                exact atI_last _ _
              have S2 : Same H (upd H D (.lst ((ds' ++ [z]).map fun d => V.bl (isNum d)))) := same_new hD'
              refine ⟨_, rfl, _, rfl, a, xs, _, y, rfl, rfl, seq_same S2 hS, hxs, (by show 2 ≤ sizeLine; decide), fun p hp => ?_⟩
              have S3 := S2.trans (same_new (o := .tup [.int 0, .int 1]) hp)
              refine ⟨z, .tuple [.int 0, .int 1], dy.un.ext S3, .tup (.inl (.inl upd_same)) dp_two, shaped_of_num hz, shaped_num, ?_⟩
              have el3 : ((ds' ++ [z]).getLast?.getD .none) = z := by simp
              rw [el3] at k
              exact k _ S3
end
end My

set_option Elab.async false
set_option linter.all false
set_option maxRecDepth 100000
set_option maxHeartbeats 4000000
set_option exponentiation.threshold 20000
namespace My
open PySem PySem.Spec PyProof.Rows L2
/-! ### what is handed back or refused -/
inductive Er where
  | num | row | par | grt
deriving DecidableEq
def Er.fld : Er → Str
  | .num => "value" | .row => "place" | .par => "value" | .grt => "most"
def Er.bare : Er → Bool
  | .num => false | .row => false | .par => false | .grt => false
/-- the classes' addresses -/
structure Ads where
  n : Addr
  s : Addr
  r : Addr
  p : Addr
  g : Addr
  o : Addr
  i : Addr
  d : Addr
  u : Addr
  b : Addr
  e : Addr
def Ads.of (a : Ads) : Er → Addr
  | .num => a.n | .row => a.r | .par => a.p | .grt => a.g
inductive Out where
  | ok (d : PyData) | er (e : Er) (d : PyData)
def ToldX (K : PySem.W.Frag) (a : Ads) (N : List Addr) (H : Hp) (o : Out) (Q : VK) (E : XK) : Prop := match o with
  | .ok d => Told K N H d Q
  | .er e d => ∀ p u H', Same H H' → H' p = some (.xd [(e.fld, u)]) → p ∉ N → Dp K (cut N H') u d → E (.ref (a.of e)) (some p) H'
structure Exs (P : Program) (w : World) (K : PySem.W.Frag) (mg : Str → Option Value) (base : Heap) (a : Ads) : Prop where
  x_BadNumber : Ec P w K mg base "BadNumber" "value" a.n
  x_BadRow : Ec P w K mg base "BadRow" "place" a.r
  x_BadParameter : Ec P w K mg base "BadParameter" "value" a.p
  x_TooGreat : Ec P w K mg base "TooGreat" "most" a.g
theorem told_er {K : PySem.W.Frag} {a : Ads} {N : List Addr} {H H1 : Hp} {e : Er} {d : PyData} {u : V} {p : Addr} {Q : VK} {E : XK} (k : ToldX K a N H (.er e d) Q E) (l : Live N H) (s : Same H H1) (n : H1 p = none) (hd : Dp K (cut N H1) u d) (he : e.bare = false := by decide) :
    E (.ref (a.of e)) (some p) (upd H1 p (.xd [(e.fld, u)])) := by
  have k' : ∀ p u H', Same H H' → H' p = some (.xd [(e.fld, u)]) → p ∉ N → Dp K (cut N H') u d → E (.ref (a.of e)) (some p) H' := by
    cases e <;> first | exact absurd he (by decide) | exact k
  exact k' p u _ (s.trans (same_new n)) upd_same ((l.same s).new n) (hd.ext (Same.cut N (same_new n)))
theorem for_enumT {K : PySem.W.Frag} {a : Addr} {xs : List V} {g : TG} {tb : TS} {D : Ends} {σ : L2.St} {H : Hp} (Pv : Nat → L2.St → Hp → Prop) (h0 : Pv 0 σ H) (hl : ∀ i σ H, Pv i σ H → SqT K H a xs)
    (hs : ∀ i x σ H, xs[i]? = some x → Pv i σ H → ∀ T, H T = none → g (.ref T) σ (upd H T (.tup [.int (i : Nat), x])) fun σ2 H2 => tb { D with nx := Pv (i + 1), ct := Pv (i + 1), bk := D.nx } σ2 H2) (hd : ∀ σ H, Pv xs.length σ H → D.nx σ H) :
    ∃ W : Nat → Nat → L2.St → Hp → Prop, (∃ m, W 0 m σ H) ∧ ∀ i m σ H, W i m σ H →
      ((IteT K a).stop i H ∧ D.nx σ H) ∨ ((IteT K a).go i H ∧ ∃ N : L2.St → Hp → Prop, (∀ σ' H', N σ' H' → ∃ m', m' < m ∧ W (i + 1) m' σ' H') ∧
        ∀ x H', (IteT K a).yld i H x H' → g x σ H' fun σ2 H2 => tb { D with nx := N, ct := N, bk := D.nx } σ2 H2) := by
  refine ⟨fun i m σ H => m = xs.length - i ∧ i ≤ xs.length ∧ Pv i σ H, ⟨xs.length, by simp, Nat.zero_le _, h0⟩, ?_⟩
  rintro i m σ H ⟨rfl, hi, p⟩
  have q := hl i σ H p
  by_cases hlt : i < xs.length
  · have hx : xs[i]? = some (xs[i]) := List.getElem?_eq_getElem _
    refine .inr ⟨⟨xs, _, q, hx⟩, Pv (i + 1), fun σ' H' p' => ⟨xs.length - (i + 1), by omega, rfl, hlt, p'⟩, fun v H' y => ?_⟩
    obtain ⟨T, x, rfl, nT, rfl, y⟩ := y
    exact hs i x σ H (y xs q) p T nT
  · have e : i = xs.length := by omega
    subst e
    exact .inl ⟨⟨xs, q, Nat.le_refl _⟩, hd σ H p⟩
section
variable {P : Program} {w : World} {K : PySem.W.Frag} {mg : Str → Option Value} {base : Heap} {t1 t2 t3 : Tok} {f : Addr} {fd : FuncData} {ad : Ads}
def needOut (p : PyData → Bool) (e : Er) (d : PyData) : Out := if p d = true then .ok d else .er e d
def sp_need (p : PyData → Bool) (e : Er) (ad : Ads) (K : PySem.W.Frag) : Sp := fun vs H Q E => ∃ (N : List Addr) (v : V) (d : PyData), vs = [v] ∧ Live N H ∧ Dp K (cut N H) v d ∧ ToldX K ad N H (needOut p e d) Q E
theorem needOut_ok {p : PyData → Bool} {e : Er} {d : PyData} (h : p d = true) : needOut p e d = .ok d := if_pos h
theorem needOut_er {p : PyData → Bool} {e : Er} {d : PyData} (h : p d = false) : needOut p e d = .er e d := if_neg (by rw [h]; exact Bool.false_ne_true)
theorem ok_need_number (F : Fun K "need_number" "need_number" s_need_number f fd) (T : Txt K mg t1 t2 t3) (XS : Exs P w K mg base ad) (C_is_number : Ce P w K mg base CX0 2 "is_number" ["value"] (sp_is_number K)) :
    FnOk P w K mg base (L2.CX P w) 4 f fd ["value"] (sp_need isNum .num ad K) := by
  refine F.okX sc_need_number (fun vs H Q E h => ?_) (fun cdv A outer s H vs Q E hr h => ?_)
  · obtain ⟨N, v, d, rfl, _⟩ := h
    rfl
  · obtain ⟨N, v, d, rfl, l, hd, k⟩ := h
    refine ⟨_, (pss_cons (ps_if (pt_not (pt_val (pe_ce C_is_number (hr.mono (by decide)) pass0 (pa_cons (pv 0) pa_nil)))) (pss_one (ps_raise rfl (takes_of rfl rfl rfl rfl) (pmk_ec XS.x_BadNumber hr (pa_cons (pv 0) pa_nil)))) pss_nil)
      (pss_one (ps_ret (pv 0)))), ?_⟩
    refine ⟨_, rfl, v, d, rfl, hd.un, isNum d, rfl, ?_⟩
    cases e : isNum d with
    | true =>
      rw [needOut_ok e] at k
      exact ⟨_, rfl, k v H (Same.refl H) hd⟩
    | false =>
      rw [needOut_er e] at k
      exact ⟨_, rfl, mk_fill XS.x_BadNumber fun q hq => told_er k l (Same.refl H) hq hd⟩
/-! ### a step's degree, head, plainness -/
theorem isStep_shape {d : PyData} (h : isStep d = true) : ∃ ds, d = .tuple ds ∧ 2 ≤ ds.length ∧ ds.length ≤ 65 ∧ ds.all isNum = true := by
  cases d with
  | tuple ds =>
    rw [isStep_tup] at h
    simp only [Bool.and_eq_true, decide_eq_true_eq] at h
    exact ⟨ds, rfl, h.1, h.2.1, h.2.2.1⟩
  | _ => cases h
def sp_out1 (o : PyData → Out) (ad : Ads) (K : PySem.W.Frag) : Sp := fun vs H Q E => ∃ (N : List Addr) (v : V) (d : PyData), vs = [v] ∧ Live N H ∧ Dp K (cut N H) v d ∧ ToldX K ad N H (o d) Q E
theorem last_at {K : PySem.W.Frag} {H : Hp} {xs : List V} {ds : List PyData} (h : DpAll K H xs ds) (hne : ds ≠ []) : ∃ y, atI xs (-1) = some y ∧ Dp K H y (ds.getLast?.getD .none) := by
  obtain ⟨ds', z, rfl⟩ : ∃ ds' z, ds = ds' ++ [z] := ⟨_, _, (List.dropLast_concat_getLast hne).symm⟩
  have el := h.length
  have el2 : (ds' ++ [z])[ds'.length]? = some z := by simp
  obtain ⟨y, hy, dy⟩ := h.get el2
  have hxl : xs.length = ds'.length + 1 := by rw [el]; simp
  have hne2 : xs ≠ [] := by intro q; rw [q] at hxl; simp at hxl
  refine ⟨y, ?_, by simpa using dy⟩
  have e : xs.getLast hne2 = y := by
    rw [List.getLast_eq_getElem]
    obtain ⟨h4, h5⟩ := List.getElem?_eq_some_iff.mp hy
    rw [← h5]
    congr 1
    omega
  rw [← List.dropLast_concat_getLast hne2, e]
  exact atI_last _ _
/-! ### is_plain -/
theorem all_last {ds : List PyData} (h : ds.all isNum = true) (hne : ds ≠ []) : isNum (ds.getLast?.getD .none) = true := by
  rw [List.getLast?_eq_some_getLast hne]
  exact List.all_eq_true.mp h _ (List.getLast_mem hne)
/-! ### value_at -/
theorem small_great {n : Int} (h1 : -(10 ^ 60) ≤ n) (h2 : n ≤ 10 ^ 60) : n.natAbs < 2 ^ 200 := by
  have : n.natAbs ≤ 10 ^ 60 := by omega
  exact Nat.lt_of_le_of_lt this (by decide)
theorem num_of {d : PyData} (h : isNum d = true) : ∃ q : Int × Int, d = nD q ∧ 0 < q.2 ∧ q.1.natAbs < 2 ^ 200 ∧ q.2.natAbs < 2 ^ 200 ∧ Low q := by
  obtain ⟨n, m, rfl, ho⟩ := isNum_shape h
  unfold okNum at ho
  simp only [Bool.and_eq_true, decide_eq_true_eq] at ho
  obtain ⟨h1, h2, h3, h4, h5⟩ := ho
  exact ⟨(n, m), rfl, by show 0 < m; omega, small_great h1 h2, small_great (by omega) h4, by show 0 < m; omega, h5⟩
theorem nums_of : ∀ {ds : List PyData}, ds.all isNum = true → ∃ s : List (Int × Int), ds = s.map nD ∧ Fit 200 200 s
  | [], _ => ⟨[], rfl, ⟨fun _ h => (by cases h), fun _ h => (by cases h), fun _ h => (by cases h)⟩⟩
  | d :: ds, h => by
    rw [List.all_cons, Bool.and_eq_true] at h
    obtain ⟨q, e, h1, h2, h3, _⟩ := num_of h.1
    obtain ⟨s, e2, F⟩ := nums_of h.2
    refine ⟨q :: s, by rw [e, e2]; rfl, ⟨fun r hr => ?_, fun r hr => ?_, fun r hr => ?_⟩⟩ <;>
    · rcases List.mem_cons.mp hr with z | z
      · rw [z]; assumption
      · first | exact F.pos r z | exact F.top r z | exact F.bot r z
theorem nD_inj {p q : Int × Int} (h : nD p = nD q) : p = q := by
  obtain ⟨a, b⟩ := p
  obtain ⟨c, d⟩ := q
  unfold nD at h
  injection h with h
  injection h with h1 h
  injection h1 with h1
  injection h with h2 h
  injection h2 with h2
  simp only at h1 h2
  rw [h1, h2]
theorem map_nD_inj : ∀ {s t : List (Int × Int)}, s.map nD = t.map nD → s = t
  | [], [], _ => rfl
  | [], _ :: _, h => by cases h
  | _ :: _, [], h => by cases h
  | a :: s, b :: t, h => by
    rw [List.map_cons, List.map_cons] at h
    injection h with h1 h2
    rw [nD_inj h1, map_nD_inj h2]
/-! ### need_row -/
def rowOut (d : PyData) : Out := match d with
  | .tuple ds => if 1 ≤ ds.length ∧ ds.length ≤ 8 then (match ds.findIdx? fun e => !isStep e with
      | none => .ok d
      | some i => .er .row (.tuple [.int (i : Nat)])) else .er .row (.tuple [])
  | _ => .er .row (.tuple [])
theorem ok_need_row (F : Fun K "need_row" "need_row" s_need_row f fd) (T : Txt K mg t1 t2 t3) (XS : Exs P w K mg base ad) (C_is_step : Ce P w K mg base CX0 3 "is_step" ["value"] (sp_is_step K)) :
    FnOk P w K mg base (L2.CX P w) 5 f fd ["value"] (sp_out1 rowOut ad K) := by
  refine F.okX sc_need_row (fun vs H Q E h => ?_) (fun cdv A outer s H vs Q E hr h => ?_)
  · obtain ⟨N, v, d, rfl, _⟩ := h
    rfl
  · obtain ⟨N, v, d, rfl, l, hdc, k⟩ := h
    refine ⟨_, (pss_cons (ps_if (PW.pt (pw_or (pt_not (pt_val (pe_callB call_isi (by rfl) T.f_isinstance (by decide +kernel) (pa_cons (pv 0) (pa_cons (pe_bltn (v := .ty "tuple") rfl T.f_tuple (by decide +kernel) rfl) pa_nil))))) (pw_or (pt_cmpR op_lt (pe_callB call_len_seq (by rfl) T.f_len (by decide +kernel) (pa_cons (pv 0) pa_nil)) pe_int (nomark _)) (pw_or1 (pt_cmpR op_gt (pe_callB call_len_seq (by rfl) T.f_len (by decide +kernel) (pa_cons (pv 0) pa_nil)) (pe_glob (v := .int 8) rfl T.g_MOST_STEPS ⟨_, rfl⟩) (nomark _)))))) (pss_one (ps_raise rfl (takes_of rfl rfl rfl rfl) (pmk_ec XS.x_BadRow hr (pa_cons (pe_tup pa_nil) pa_nil)))) pss_nil)
      (pss_cons (ps_for (passes_of rfl) rfl (pi_enumT (by rfl) T.f_enumerate (pa_cons (pv 0) pa_nil)) (pg_tup rfl (pgs_cons (pg_name (i := 1) sc_need_row.nd rfl (Or.inl rfl)) (pgs_cons (pg_name (i := 2) sc_need_row.nd rfl (Or.inl rfl)) pgs_nil)))
      (pss_one (ps_if (pt_not (pt_val (pe_ce C_is_step (hr.mono (by decide)) pass0 (pa_cons (pv 2) pa_nil)))) (pss_one (ps_raise rfl (takes_of rfl rfl rfl rfl) (pmk_ec XS.x_BadRow hr (pa_cons (pe_tup (pa_cons (pv 1) pa_nil)) pa_nil)))) pss_nil)))
      (pss_one (ps_ret (pv 0))))), ?_⟩
    have hd := hdc.un
    have none_er : (rowOut d = .er .row (.tuple [])) → ∀ p, H p = none → [V.ref p].length ≤ 1000 ∧ ∀ a, (upd H p (.tup [])) a = none → sp_init K "place" (.ref a :: ([.ref p] ++ [])) (upd (upd H p (.tup [])) a (exo a ad.r none))
        (fun u H2 => u = .non ∧ ∃ (d : Addr) (fs : List (Str × V)), H2 a = some (exo a ad.r (some d)) ∧ H2 d = some (exd d fs) ∧ (upd H p (.tup [])) d = none ∧ E (.ref ad.r) (some d) (upd (del H2 a) d (.xd fs))) (fun _ _ _ => False) := by
      intro e p hp
      rw [e] at k
      have np := l.new hp
      exact mk_fill XS.x_BadRow fun q hq => told_er k l (same_new hp) hq (.tup (.inl (.inl (cut_at np upd_same))) .nil)
    refine ⟨_, rfl, _, _, _, _, isTup d, rfl, .ty "tuple", ty_dp hd, kit_tuple (noDict_dp hd), isTup d, rfl, ?_⟩
    cases hdc with
    | non => exact ⟨Nat.zero_le _, none_er rfl⟩
    | bl b => exact ⟨Nat.zero_le _, none_er rfl⟩
    | int i => exact ⟨Nat.zero_le _, none_er rfl⟩
    | str x => exact ⟨Nat.zero_le _, none_er rfl⟩
    | lst a b => exact ⟨Nat.zero_le _, none_er rfl⟩
    | @tup a xs ds hSc hDc =>
      have hS := seq_un hSc
      have hD := hDc.un
      have el : xs.length = ds.length := hD.length
      refine iteF ?_
      refine ⟨_, rfl, a, xs, rfl, .inr hS, _, _, rfl, rfl, _, rfl, ?_⟩
      by_cases c1 : (xs.length : Int) < 1
      · rw [decide_eq_true c1]
        exact ⟨Nat.zero_le _, none_er (if_neg (by omega))⟩
      · rw [decide_eq_false c1]
        refine iteF ?_
        refine ⟨_, rfl, a, xs, rfl, .inr hS, _, _, rfl, rfl, _, rfl, ?_⟩
        by_cases c2 : (8 : Int) < (xs.length : Int)
        · rw [decide_eq_true c2]
          exact ⟨Nat.zero_le _, none_er (if_neg (by omega))⟩
        · rw [decide_eq_false c2]
          refine iteF ?_
          have er : rowOut (.tuple ds) = (match ds.findIdx? fun e => !isStep e with | none => .ok (.tuple ds) | some i => .er .row (.tuple [.int (i : Nat)])) := if_pos ⟨by omega, by omega⟩
          refine ⟨_, rfl, a, xs, rfl, hS, for_enumT (K := K) (a := a) (xs := xs) (fun i σ H' => Same H H' ∧ (∀ j, j < i → ∀ e, ds[j]? = some e → isStep e = true) ∧ ∃ o1 o2, σ = [some (.ref a), o1, o2])
            ⟨Same.refl H, fun j hj => absurd hj (Nat.not_lt_zero j), _, _, rfl⟩ (fun i σ H' h => seq_same h.1 hS) ?_ ?_⟩
          · rintro i x σ H' hx ⟨S1, hall, o1, o2, rfl⟩ T1 nT
            obtain ⟨e, h1, h2⟩ := hDc.get' hx
            have S2 := S1.trans (same_new (o := .tup [.int (i : Nat), x]) nT)
            refine ⟨T1, _, rfl, .inl (.inl upd_same), rfl, _, _, rfl, _, _, rfl, rfl, ?_⟩
            refine ⟨_, rfl, N, x, e, rfl, l.same S2, h2.ext (Same.cut N S2), fun H3 s3 => ⟨isStep e, rfl, ?_⟩⟩
            have S3 := S2.trans s3
            cases es : isStep e with
            | true =>
              refine ⟨S3, fun j hj y hy => ?_, _, _, rfl⟩
              by_cases z : j = i
              · subst z
                rw [h1] at hy
                cases hy
                exact es
              · exact hall j (by omega) y hy
            | false =>
              have hi := (List.getElem?_eq_some_iff.mp h1).1
              have ef : ds.findIdx? (fun e => !isStep e) = some i := by
                rw [List.findIdx?_eq_some_iff_getElem]
                refine ⟨hi, ?_, fun j hj => ?_⟩
                · have := (List.getElem?_eq_some_iff.mp h1).2
                  rw [this, es]
                  rfl
                · have hj2 : j < ds.length := by omega
                  have := hall j hj _ (List.getElem?_eq_getElem hj2)
                  rw [this]
                  decide
              rw [er, ef] at k
              refine ⟨_, rfl, (by show 1 ≤ sizeLine; decide), fun p hp => ?_⟩
              have np := (l.same S3).new hp
              exact mk_fill XS.x_BadRow fun q hq => told_er k l (S3.trans (same_new hp)) hq (.tup (.inl (.inl (cut_at np upd_same))) (.cons (.int _) .nil))
          · rintro σ H' ⟨S1, hall, o1, o2, rfl⟩
            have ef : ds.findIdx? (fun e => !isStep e) = none := by
              rw [List.findIdx?_eq_none_iff]
              intro e he
              obtain ⟨j, hj, e2⟩ := List.mem_iff_getElem.mp he
              have := hall j (by omega) e (by rw [List.getElem?_eq_getElem hj, e2])
              rw [this]
              rfl
            rw [er, ef] at k
            exact ⟨_, rfl, k _ H' S1 ((Dp.tup hSc hDc).ext (Same.cut N S1))⟩
end
end My

set_option Elab.async false
set_option linter.all false
set_option maxRecDepth 100000
set_option maxHeartbeats 4000000
set_option exponentiation.threshold 20000
namespace My
open PySem PySem.Spec PyProof.Rows L2
section
variable {P : Program} {w : World} {K : PySem.W.Frag} {mg : Str → Option Value} {base : Heap} {t1 t2 t3 : Tok} {f : Addr} {fd : FuncData} {ad : Ads}
/-! ### the law's own fractions -/
def sp_law_divisor : Sp := fun vs H Q _ => ∃ (a b : Int), vs = [.int a, .int b] ∧ Q (.int (gc a b)) H
theorem max_abs (a : Int) : (if -a > a then -a else a) = (a.natAbs : Int) := by
  by_cases h : -a > a
  · rw [if_pos h]; omega
  · rw [if_neg h]; omega
theorem ok__law_divisor (F : Fun K "_law_divisor" "_law_divisor" s__law_divisor f fd) (T : Txt K mg t1 t2 t3) : FnOk P w K mg base CX0 1 f fd ["one", "other"] sp_law_divisor := by
  refine F.ok sc__law_divisor (fun vs H Q E h => ?_) (fun cdv A outer s H vs Q E hr h => ?_)
  · obtain ⟨a, b, rfl, _⟩ := h
    rfl
  · obtain ⟨a, b, rfl, k⟩ := h
    refine ⟨_, (pss_cons (ps_par (i := 0) (j := 1) (by rfl) sc__law_divisor.nd rfl rfl (by decide) rfl rfl (pa_cons (pe_callB (call_max2 rfl) (by rfl) T.f_max (by decide +kernel) (pa_cons (pv 0) (pa_cons (pe_un un_neg (pv 0)) pa_nil))) (pa_cons (pe_callB (call_max2 rfl) (by rfl) T.f_max (by decide +kernel) (pa_cons (pv 1) (pa_cons (pe_un un_neg (pv 1)) pa_nil))) pa_nil)) (by rfl))
      (pss_cons (ps_while PassesOwn.never (pt_cmpR op_gt (pv 1) pe_int (nomark _)) (pss_one (ps_par (i := 0) (j := 1) (by rfl) sc__law_divisor.nd rfl rfl (by decide) rfl rfl (pa_cons (pv 1) (pa_cons (pe_op op_modN (pv 0) (pv 1)) pa_nil)) (by rfl))))
      (pss_one (ps_ret (pv 0))))), ?_⟩
    refine ⟨_, rfl, _, rfl, _, rfl, _, _, rfl, ?_⟩
    refine ⟨_, rfl, _, rfl, _, rfl, _, _, rfl, _, _, rfl, ?_⟩
    rw [max_abs, max_abs]
    refine while_by (fun σ H' => H' = H ∧ ∃ x y : Nat, σ = [some (.int x), some (.int y)] ∧ Nat.gcd x y = Nat.gcd a.natAbs b.natAbs) (fun σ _ => match σ with | [_, some (.int y)] => y.toNat | _ => 0) ⟨rfl, _, _, rfl, rfl⟩ ?_ ?_
    · rintro σ H' ⟨rfl, x, y, rfl, hg⟩
      refine ⟨_, rfl, _, _, rfl, rfl, _, rfl, ?_⟩
      by_cases hy : (0 : Int) < (y : Int)
      · rw [decide_eq_true hy]
        refine iteT ?_
        refine ⟨_, rfl, _, rfl, _, rfl, _, _, rfl, rfl, by omega, _, _, rfl, ?_⟩
        have e : (x : Int).fmod (y : Int) = ((x % y : Nat) : Int) := by
          rw [Int.fmod_eq_emod_of_nonneg _ (by omega)]
          rfl
        refine ⟨⟨rfl, y, x % y, ?_, ?_⟩, ?_⟩
        · show [some (V.int (y : Int)), some (V.int ((x : Int).fmod (y : Int)))] = _
          rw [e]
        · rw [← hg, Nat.gcd_comm x y, Nat.gcd_rec y x, Nat.gcd_comm]
        · show ((x : Int).fmod (y : Int)).toNat < ((y : Nat) : Int).toNat
          rw [e]
          have := Nat.mod_lt x (show y > 0 by omega)
          omega
      · rw [decide_eq_false hy]
        refine iteF ?_
        have : y = 0 := by omega
        subst this
        rw [Nat.gcd_zero_right] at hg
        refine ⟨_, rfl, ?_⟩
        rw [hg]
        exact k
    · rintro σ H' Q1 Q2 hq ⟨v, hv, i, j, e1, e2, k', e3, q⟩
      exact ⟨v, hv, i, j, e1, e2, k', e3, hq _ _ q⟩
def sp_law_frac (K : PySem.W.Frag) : Sp := fun vs H Q _ => ∃ (N : List Addr) (a b : Int), vs = [.int a, .int b] ∧ Live N H ∧ 0 < b ∧ b.natAbs.log2 < 9000 ∧ Told K N H (nD (fr a b)) Q
theorem ok__law_frac (F : Fun K "_law_frac" "_law_frac" s__law_frac f fd) (T : Txt K mg t1 t2 t3) (C__law_divisor : Ce P w K mg base CX0 1 "_law_divisor" ["one", "other"] sp_law_divisor) : FnOk P w K mg base CX0 2 f fd ["above", "below"] (sp_law_frac K) := by
  refine F.ok sc__law_frac (fun vs H Q E h => ?_) (fun cdv A outer s H vs Q E hr h => ?_)
  · obtain ⟨N, a, b, rfl, _⟩ := h
    rfl
  · obtain ⟨N, a, b, rfl, l, hb, hz, k⟩ := h
    refine ⟨_, (pss_cons (ps_set (i := 2) sc__law_frac.nd rfl (Or.inl rfl) (pe_ce C__law_divisor (hr.mono (by decide)) pass0 (pa_cons (pv 0) (pa_cons (pv 1) pa_nil))))
      (pss_cons (ps_if (pt_cmpR op_lt (pv 1) pe_int (nomark _)) (pss_one (ps_set (i := 2) sc__law_frac.nd rfl (Or.inl rfl) (pe_un un_neg (pv 2)))) pss_nil)
      (pss_one (ps_ret (pe_tup (pa_cons (pe_op op_fdivW (pv 0) (pv 2)) (pa_cons (pe_op op_fdivW (pv 1) (pv 2)) pa_nil))))))), ?_⟩
    have hd : ∀ z, CDivW z (gc a b) := fun z => ⟨gc_pos hb, Nat.lt_of_le_of_lt (by
      have h1 := gc_le (a := a) hb
      have h2 : (gc a b).natAbs ≠ 0 := by have := gc_pos (a := a) hb; omega
      exact (Nat.le_log2 (by omega)).mpr (Nat.le_trans (Nat.log2_self_le h2) h1)) hz⟩
    refine ⟨_, rfl, _, rfl, a, b, rfl, _, rfl, _, _, rfl, rfl, _, rfl, ?_⟩
    rw [decide_eq_false (show ¬ b < 0 by omega)]
    refine iteF ?_
    refine ⟨_, rfl, _, rfl, _, _, rfl, rfl, hd _, _, rfl, _, rfl, _, _, rfl, rfl, hd _, (by show 2 ≤ sizeLine; decide), fun p hp => ?_⟩
    exact told_tup k l (Same.refl H) hp dp_two
/-- both parts within n bits, the lower one above nought -/
structure Bd (n : Nat) (q : Int × Int) : Prop where
  pos : 0 < q.2
  top : q.1.natAbs < 2 ^ n
  bot : q.2.natAbs < 2 ^ n
theorem fr_bd {a b : Int} {n : Nat} (h : 0 < b) (ha : a.natAbs < 2 ^ n) (hb : b.natAbs < 2 ^ n) : Bd n (fr a b) :=
  ⟨fr_pos h, Nat.lt_of_le_of_lt (natAbs_div_le _ _) ha, Nat.lt_of_le_of_lt (natAbs_div_le _ _) hb⟩
theorem qmul_bd {p q : Int × Int} {m n : Nat} (hp : Bd m p) (hq : Bd n q) : Bd (m + n) (qmul p q) := fr_bd (Int.mul_pos hp.pos hq.pos) (wide_lt hp.top hq.top) (wide_lt hp.bot hq.bot)
theorem qadd_bd {p q : Int × Int} {m n : Nat} (hp : Bd m p) (hq : Bd n q) : Bd (m + n + 1) (qadd p q) := by
  refine fr_bd (Int.mul_pos hp.pos hq.pos) ?_ (Nat.lt_of_lt_of_le (wide_lt hp.bot hq.bot) (Nat.pow_le_pow_right (by decide) (by omega)))
  have h1 := wide_lt hp.top hq.bot
  have h2 := wide_lt hq.top hp.bot
  rw [Nat.add_comm] at h2
  have h3 := Int.natAbs_add_le (p.1 * q.2) (q.1 * p.2)
  rw [Nat.pow_succ]
  omega
theorem Bd.mono {p : Int × Int} {m n : Nat} (h : Bd m p) (hn : m ≤ n) : Bd n p := ⟨h.pos, Nat.lt_of_lt_of_le h.top (Nat.pow_le_pow_right (by decide) hn), Nat.lt_of_lt_of_le h.bot (Nat.pow_le_pow_right (by decide) hn)⟩
theorem W2 {i j : Int} {c d : Nat} (h1 : i.natAbs < 2 ^ c) (h2 : j.natAbs < 2 ^ d) (h3 : c + d ≤ 900000) : CMulW i j :=
  wide_mul (a := c + 1) (b := d + 1) (Nat.lt_of_lt_of_le h1 (Nat.pow_le_pow_right (by decide) (by omega))) (Nat.lt_of_lt_of_le h2 (Nat.pow_le_pow_right (by decide) (by omega))) (by omega) (by omega) (by omega)
def sp_law_two (g : Int × Int → Int × Int → Int × Int) (K : PySem.W.Frag) : Sp := fun vs H Q _ => ∃ (N : List Addr) (v u : V) (p q : Int × Int) (m n : Nat), vs = [v, u] ∧ Live N H ∧ Dp K (cut N H) v (nD p) ∧ Dp K (cut N H) u (nD q) ∧ Bd m p ∧ Bd n q ∧ m + n ≤ 8000 ∧ Told K N H (nD (g p q)) Q
theorem ok__law_add (F : Fun K "_law_add" "_law_add" s__law_add f fd) (T : Txt K mg t1 t2 t3) (C__law_frac : Ce P w K mg base CX0 2 "_law_frac" ["above", "below"] (sp_law_frac K)) : FnOk P w K mg base CX0 3 f fd ["one", "other"] (sp_law_two qadd K) := by
  refine F.ok sc__law_add (fun vs H Q E h => ?_) (fun cdv A outer s H vs Q E hr h => ?_)
  · obtain ⟨N, v, u, p, q, m, n, rfl, _⟩ := h
    rfl
  · obtain ⟨N, v, u, p, q, m, n, rfl, l, hv, hu, hp, hq, hz, k⟩ := h
    obtain ⟨a, rfl, ha⟩ := dp_num hv.un
    obtain ⟨b, rfl, hb⟩ := dp_num hu.un
    refine ⟨_, (pss_one (ps_ret (pe_ce C__law_frac (hr.mono (by decide)) pass0 (pa_cons (pe_op op_add (pe_op op_mulW (pe_ix ix_tup (pv 0) pe_int (fun _ _ => rfl)) (pe_ix ix_tup (pv 1) pe_int (fun _ _ => rfl))) (pe_op op_mulW (pe_ix ix_tup (pv 1) pe_int (fun _ _ => rfl)) (pe_ix ix_tup (pv 0) pe_int (fun _ _ => rfl)))) (pa_cons (pe_op op_mulW (pe_ix ix_tup (pv 0) pe_int (fun _ _ => rfl)) (pe_ix ix_tup (pv 1) pe_int (fun _ _ => rfl))) pa_nil))))), ?_⟩
    refine ⟨_, rfl, a, _, 0, _, rfl, rfl, ha, rfl, _, rfl, b, _, 1, _, rfl, rfl, hb, rfl, _, _, rfl, rfl, W2 hp.top hq.bot (by omega), ?_⟩
    refine ⟨_, rfl, b, _, 0, _, rfl, rfl, hb, rfl, _, rfl, a, _, 1, _, rfl, rfl, ha, rfl, _, _, rfl, rfl, W2 hq.top hp.bot (by omega), _, _, rfl, rfl, ?_⟩
    refine ⟨_, rfl, a, _, 1, _, rfl, rfl, ha, rfl, _, rfl, b, _, 1, _, rfl, rfl, hb, rfl, _, _, rfl, rfl, W2 hp.bot hq.bot (by omega), ?_⟩
    exact ⟨N, _, _, rfl, l, Int.mul_pos hp.pos hq.pos, Nat.lt_of_lt_of_le (log_of (n := m + n + 1) (by omega) (Nat.lt_of_lt_of_le (wide_lt hp.bot hq.bot) (Nat.pow_le_pow_right (by decide) (by omega)))) (by omega), k⟩
theorem ok__law_mul (F : Fun K "_law_mul" "_law_mul" s__law_mul f fd) (T : Txt K mg t1 t2 t3) (C__law_frac : Ce P w K mg base CX0 2 "_law_frac" ["above", "below"] (sp_law_frac K)) : FnOk P w K mg base CX0 3 f fd ["one", "other"] (sp_law_two qmul K) := by
  refine F.ok sc__law_mul (fun vs H Q E h => ?_) (fun cdv A outer s H vs Q E hr h => ?_)
  · obtain ⟨N, v, u, p, q, m, n, rfl, _⟩ := h
    rfl
  · obtain ⟨N, v, u, p, q, m, n, rfl, l, hv, hu, hp, hq, hz, k⟩ := h
    obtain ⟨a, rfl, ha⟩ := dp_num hv.un
    obtain ⟨b, rfl, hb⟩ := dp_num hu.un
    refine ⟨_, (pss_one (ps_ret (pe_ce C__law_frac (hr.mono (by decide)) pass0 (pa_cons (pe_op op_mulW (pe_ix ix_tup (pv 0) pe_int (fun _ _ => rfl)) (pe_ix ix_tup (pv 1) pe_int (fun _ _ => rfl))) (pa_cons (pe_op op_mulW (pe_ix ix_tup (pv 0) pe_int (fun _ _ => rfl)) (pe_ix ix_tup (pv 1) pe_int (fun _ _ => rfl))) pa_nil))))), ?_⟩
    refine ⟨_, rfl, a, _, 0, _, rfl, rfl, ha, rfl, _, rfl, b, _, 0, _, rfl, rfl, hb, rfl, _, _, rfl, rfl, W2 hp.top hq.top (by omega), ?_⟩
    refine ⟨_, rfl, a, _, 1, _, rfl, rfl, ha, rfl, _, rfl, b, _, 1, _, rfl, rfl, hb, rfl, _, _, rfl, rfl, W2 hp.bot hq.bot (by omega), ?_⟩
    exact ⟨N, _, _, rfl, l, Int.mul_pos hp.pos hq.pos, Nat.lt_of_lt_of_le (log_of (n := m + n + 1) (by omega) (Nat.lt_of_lt_of_le (wide_lt hp.bot hq.bot) (Nat.pow_le_pow_right (by decide) (by omega)))) (by omega), k⟩
/-! ### the sum of powers -/
def fb (c n : Nat) : Nat → Nat
  | 0 => 1
  | i + 1 => fb c n i + (c + (n * i + 1)) + 1
theorem fb_mono {c n : Nat} : ∀ {i j : Nat}, i ≤ j → fb c n i + (j - i) * (c + n * i + 2) ≤ fb c n j := by
  intro i j h
  induction j with
  | zero =>
    have : i = 0 := by omega
    subst this
    simp
  | succ j ih =>
    by_cases e : i = j + 1
    · subst e
      simp
    · have h1 := ih (by omega)
      have e2 : j + 1 - i = (j - i) + 1 := by omega
      rw [e2, Nat.add_mul, Nat.one_mul]
      have h2 : n * i ≤ n * j := Nat.mul_le_mul_left n (by omega)
      show _ ≤ fb c n j + (c + (n * j + 1)) + 1
      omega
theorem fb_le {c n i j : Nat} (h : i ≤ j) : fb c n i ≤ fb c n j := Nat.le_trans (Nat.le_add_right _ _) (fb_mono h)
theorem sumPow_bd {c n : Nat} {x : Int × Int} (hx : Bd n x) (s : List (Int × Int)) (hs : ∀ q ∈ s, Bd c q) : Bd (fb c n s.length) (sumPow s x).1 ∧ Bd (n * s.length + 1) (sumPow s x).2 := by
  revert hs
  refine snoc_ind s ?_ ?_
  · intro _
    refine ⟨⟨by show (0 : Int) < 1; decide, by show 0 < 2 ^ 1; decide, by show 1 < 2 ^ 1; decide⟩, ⟨by show (0 : Int) < 1; decide, ?_, ?_⟩⟩ <;>
    · show 1 < 2 ^ (n * 0 + 1)
      simp
  · intro l q ih hs
    obtain ⟨h1, h2⟩ := ih fun r hr => hs r (List.mem_append_left _ hr)
    have hq := hs q (List.mem_append_right _ List.mem_cons_self)
    have e : sumPow (l ++ [q]) x = sumStep x (sumPow l x) q := by
      unfold sumPow
      rw [List.foldl_append]
      rfl
    rw [e, List.length_append, List.length_singleton]
    refine ⟨?_, ?_⟩
    · exact qadd_bd h1 (qmul_bd hq h2)
    · have := qmul_bd h2 hx
      rwa [show n * l.length + 1 + n = n * (l.length + 1) + 1 by rw [Nat.mul_add]; omega] at this
def sp_law_sum_of_powers (K : PySem.W.Frag) : Sp := fun vs H Q _ => ∃ (N : List Addr) (v u : V) (s : List (Int × Int)) (x : Int × Int) (c n : Nat), vs = [v, u] ∧ Live N H ∧ Dp K (cut N H) v (sD s) ∧ Dp K (cut N H) u (nD x) ∧
  (∀ q ∈ s, Bd c q) ∧ Bd n x ∧ fb c n (s.length + 1) ≤ 7900 ∧ n * s.length + n ≤ 7000 ∧ Told K N H (nD (sumPow s x).1) Q
theorem nD_eq {q : Int × Int} : nD q = .tuple [.int q.1, .int q.2] := rfl
theorem sumPow_more {s : List (Int × Int)} {x q : Int × Int} {i : Nat} (h : s[i]? = some q) : sumPow (s.take (i + 1)) x = sumStep x (sumPow (s.take i) x) q := by
  rw [take_more h]
  unfold sumPow
  rw [List.foldl_append]
  rfl
/-! ### powers -/
def powD (n : Nat) : PyData := .tuple (List.replicate n (nD (0, 1)) ++ [nD (1, 1)])
def sp_law_power (K : PySem.W.Frag) : Sp := fun vs H Q _ => ∃ (N : List Addr) (n : Nat), vs = [.int n] ∧ Live N H ∧ 1 ≤ n ∧ n ≤ 500 ∧ Told K N H (powD n) Q
theorem flat_one {α : Type} (x : α) : ∀ n : Nat, (List.replicate n [x]).flatten = List.replicate n x
  | 0 => rfl
  | n + 1 => by rw [List.replicate_succ, List.flatten_cons, flat_one x n]; rfl
theorem dp_rep {K : PySem.W.Frag} {H : Hp} {v : V} {d : PyData} (h : Dp K H v d) : ∀ n : Nat, DpAll K H (List.replicate n v) (List.replicate n d)
  | 0 => .nil
  | n + 1 => .cons h (dp_rep h n)
end
end My

set_option Elab.async false
set_option linter.all false
set_option maxRecDepth 100000
set_option maxHeartbeats 4000000
set_option exponentiation.threshold 20000
namespace My
open PySem PySem.Spec PyProof.Rows L2
/-! ### the law's own draws -/
def stK (pc pl : Addr) (n : Int) : List (Key × V) := [(.inr "cells", .ref pc), (.inr "lefts", .ref pl), (.inr "at", .int n)]
structure St (K : PySem.W.Frag) (N : List Addr) (H : Hp) (pd pl : Addr) (m : Nat) : Prop where
  md : pd ∈ N
  ml : pl ∈ N
  ex : ∃ (pc : Addr) (cells lefts : List Int) (n : Nat), H pd = some (.dK (stK pc pl n)) ∧ H pl = some (.lst (lefts.map V.int)) ∧ SqL K (cut N H) pc (cells.map V.int) ∧ cells.length = lefts.length ∧ 1 ≤ cells.length ∧ cells.length ≤ 1000 ∧ n ≤ m
/-- all but the state's two objects stays -/
def Chg (pd pl : Addr) (H H' : Hp) : Prop := ∀ b o, b ≠ pd → b ≠ pl → H b = some o → H' b = some o
theorem Chg.of {pd pl : Addr} {H H' : Hp} (s : Same H H') : Chg pd pl H H' := fun b o _ _ e => s b o e
theorem Chg.trans {pd pl : Addr} {H H1 H2 : Hp} (a : Chg pd pl H H1) (b : Chg pd pl H1 H2) : Chg pd pl H H2 := fun c o h1 h2 e => b c o h1 h2 (a c o h1 h2 e)
theorem Chg.cut {pd pl : Addr} {N : List Addr} {H H' : Hp} (c : Chg pd pl H H') (h1 : pd ∈ N) (h2 : pl ∈ N) : Same (My.cut N H) (My.cut N H') := fun a o e => by
  by_cases h : a ∈ N
  · rw [cut_in h] at e; cases e
  · rw [cut_out h] at e ⊢
    exact c a o (fun z => h (z ▸ h1)) (fun z => h (z ▸ h2)) e
theorem St.live {K : PySem.W.Frag} {N : List Addr} {H H' : Hp} {pd pl : Addr} {m : Nat} (S : St K N H' pd pl m) (c : Chg pd pl H H') (l : Live N H) : Live N H' := fun a h => by
  obtain ⟨pc, cells, lefts, n, e1, e2, _⟩ := S.ex
  by_cases h1 : a = pd
  · rw [h1, e1]; simp
  · by_cases h2 : a = pl
    · rw [h2, e2]; simp
    · have := l a h
      cases e : H a with
      | none => exact absurd e this
      | some o => rw [c a o h1 h2 e]; simp
theorem St.same {K : PySem.W.Frag} {N : List Addr} {H H' : Hp} {pd pl : Addr} {m : Nat} (S : St K N H pd pl m) (s : Same H H') : St K N H' pd pl m := by
  obtain ⟨pc, cells, lefts, n, e1, e2, e3, e4⟩ := S.ex
  exact ⟨S.md, S.ml, pc, cells, lefts, n, s _ _ e1, s _ _ e2, lst_same (Same.cut N s) e3, e4⟩
theorem St.more {K : PySem.W.Frag} {N : List Addr} {H : Hp} {pd pl : Addr} {m m' : Nat} (S : St K N H pd pl m) (h : m ≤ m') : St K N H pd pl m' := by
  obtain ⟨pc, cells, lefts, n, e1, e2, e3, e4, e5, e6, e7⟩ := S.ex
  exact ⟨S.md, S.ml, pc, cells, lefts, n, e1, e2, e3, e4, e5, e6, Nat.le_trans e7 h⟩
theorem st_ne {K : PySem.W.Frag} {N : List Addr} {H : Hp} {pd pl : Addr} {m : Nat} (S : St K N H pd pl m) : pd ≠ pl := by
  obtain ⟨pc, cells, lefts, n, e1, e2, _⟩ := S.ex
  exact ne_of e1 e2 (by intro z; cases z)
theorem get_at {H : Hp} {pd pc pl : Addr} {n : Int} (h : H pd = some (.dK (stK pc pl n))) : DGet H pd (.str "at") (some (.int n)) := .inl ⟨_, .inr "at", .inl h, rfl, rfl⟩
theorem get_lefts {H : Hp} {pd pc pl : Addr} {n : Int} (h : H pd = some (.dK (stK pc pl n))) : DGet H pd (.str "lefts") (some (.ref pl)) := .inl ⟨_, .inr "lefts", .inl h, rfl, rfl⟩
theorem get_cells {H : Hp} {pd pc pl : Addr} {n : Int} (h : H pd = some (.dK (stK pc pl n))) : DGet H pd (.str "cells") (some (.ref pc)) := .inl ⟨_, .inr "cells", .inl h, rfl, rfl⟩
theorem put_at {H : Hp} {pd pc pl : Addr} {n m : Int} (h : H pd = some (.dK (stK pc pl n))) : DPut H pd (.str "at") (.int m) (upd H pd (.dK (stK pc pl m))) := by
  have e : putK (stK pc pl n) (.inr "at") (.int m) = stK pc pl m := rfl
  exact .inl ⟨_, .inr "at", h, rfl, (by show 3 < sizeLine; decide), by rw [e]⟩
section
variable {P : Program} {w : World} {K : PySem.W.Frag} {mg : Str → Option Value} {base : Heap} {t1 t2 t3 : Tok} {f : Addr} {fd : FuncData} {ad : Ads}
def sp_law_mixed : Sp := fun vs H Q _ => ∃ (c k : Int), vs = [.int c, .int k] ∧ 0 ≤ k ∧ k ≤ 1000000 ∧ ∀ r : Int, 0 ≤ r → r < 2147483647 → Q (.int r) H
theorem fmod_range (a : Int) {b : Int} (h : 0 < b) : 0 ≤ a.fmod b ∧ a.fmod b < b := by
  rw [Int.fmod_eq_emod_of_nonneg _ (by omega)]
  exact ⟨Int.emod_nonneg _ (by omega), Int.emod_lt_of_pos _ h⟩
theorem abs_lt {a : Int} {n : Nat} (h0 : 0 ≤ a) (h : a < 2 ^ n) : a.natAbs < 2 ^ n := by
  have : ((a.natAbs : Nat) : Int) < ((2 ^ n : Nat) : Int) := by
    rw [Int.natCast_pow]
    have : ((a.natAbs : Nat) : Int) = a := by omega
    rw [this]
    exact h
  omega
theorem ok__law_mixed (F : Fun K "_law_mixed" "_law_mixed" s__law_mixed f fd) (T : Txt K mg t1 t2 t3) : FnOk P w K mg base CX0 1 f fd ["cell", "k"] sp_law_mixed := by
  refine F.ok sc__law_mixed (fun vs H Q E h => ?_) (fun cdv A outer s H vs Q E hr h => ?_)
  · obtain ⟨a, b, rfl, _⟩ := h
    rfl
  · obtain ⟨c, k, rfl, h0, h1, q⟩ := h
    refine ⟨_, (pss_cons (ps_set (i := 0) sc__law_mixed.nd rfl (Or.inl rfl) (pe_op op_modN (pe_callTy call_int1 (by rfl) T.f_int (by decide +kernel) (pa_cons (pv 0) pa_nil)) pe_int))
      (pss_one (ps_ret (pe_op op_modN (pe_op op_mulW (pe_op op_modN (pe_op op_add (pe_op op_add (pe_op op_mulW (pv 0) (pe_op op_add pe_int (pe_op op_mulW (pe_op op_mulW pe_int (pv 1)) (pv 1)))) (pe_op op_mulW pe_int (pv 1))) pe_int) pe_int) pe_int) pe_int)))), ?_⟩
    have r1 := fmod_range c (show (0 : Int) < 2147483647 by decide)
    refine ⟨_, rfl, .inl ⟨_, rfl, _, _, rfl, rfl, (by show (2147483647 : Int) ≠ 0; decide), ?_⟩⟩
    have kb : k.natAbs < 2 ^ 20 := by
      have : k.natAbs ≤ 1000000 := by omega
      exact Nat.lt_of_le_of_lt this (by decide)
    have db : (c.fmod 2147483647).natAbs < 2 ^ 31 := by
      have : (c.fmod 2147483647).natAbs < 2147483647 := by omega
      exact Nat.lt_of_lt_of_le this (by decide)
    have k2 : (2 * k).natAbs < 2 ^ 21 := by
      have : (2 * k).natAbs ≤ 2000000 := by omega
      exact Nat.lt_of_le_of_lt this (by decide)
    have k3 : (2 * k * k).natAbs < 2 ^ 41 := wide_lt k2 kb
    have k4 : (48271 + 2 * k * k).natAbs < 2 ^ 42 := by
      have h1 := Int.natAbs_add_le 48271 (2 * k * k)
      have h2 : (48271 : Int).natAbs = 48271 := rfl
      have h3 : (2 : Nat) ^ 42 = 2 * 2 ^ 41 := by decide
      have h4 : 48271 < (2 : Nat) ^ 41 := by decide
      omega
    refine ⟨_, rfl, _, rfl, _, _, rfl, rfl, W2 (c := 2) (d := 20) (by decide) kb (by decide), _, rfl, _, _, rfl, rfl, W2 k2 kb (by decide), _, _, rfl, rfl, ?_⟩
    refine ⟨_, _, rfl, rfl, W2 db k4 (by decide), ?_⟩
    refine ⟨_, rfl, _, _, rfl, rfl, W2 (c := 17) (d := 20) (by decide) kb (by decide), _, _, rfl, rfl, _, _, rfl, rfl, _, _, rfl, rfl, (by show (2147483647 : Int) ≠ 0; decide), ?_⟩
    have r2 := fmod_range (c.fmod 2147483647 * (48271 + 2 * k * k) + 69621 * k + 11) (show (0 : Int) < 2147483647 by decide)
    have r2b : ((c.fmod 2147483647 * (48271 + 2 * k * k) + 69621 * k + 11).fmod 2147483647).natAbs < 2 ^ 31 := by
      have : ((c.fmod 2147483647 * (48271 + 2 * k * k) + 69621 * k + 11).fmod 2147483647).natAbs < 2147483647 := by omega
      exact Nat.lt_of_lt_of_le this (by decide)
    refine ⟨_, _, rfl, rfl, W2 r2b (d := 17) (by decide) (by decide), _, _, rfl, rfl, (by show (2147483629 : Int) ≠ 0; decide), ?_⟩
    have r3 := fmod_range ((c.fmod 2147483647 * (48271 + 2 * k * k) + 69621 * k + 11).fmod 2147483647 * 69621) (show (0 : Int) < 2147483629 by decide)
    exact q _ r3.1 (by omega)
/-! ### a draw -/
def sp_law_draw (K : PySem.W.Frag) : Sp := fun vs H Q _ => ∃ (N : List Addr) (pd pl : Addr) (m : Nat) (b : Int), vs = [.ref pd, .int b] ∧ Live N H ∧ St K N H pd pl m ∧ m ≤ 900000 ∧ 0 < b ∧ b.natAbs.log2 < 9000 ∧
  ∀ (r : Int) (H' : Hp), 0 ≤ r → r < b → Chg pd pl H H' → St K N H' pd pl (m + 1) → Q (.int r) H'
theorem ixN_nat {n j : Nat} (h : j < n) : ixN n (j : Int) = some j := by
  unfold ixN
  rw [if_pos (by omega), if_pos (by omega), Int.toNat_natCast]
theorem ok__law_draw (F : Fun K "_law_draw" "_law_draw" s__law_draw f fd) (T : Txt K mg t1 t2 t3) (C__law_mixed : Ce P w K mg base CX0 1 "_law_mixed" ["cell", "k"] sp_law_mixed) : FnOk P w K mg base CX0 2 f fd ["state", "limit"] (sp_law_draw K) := by
  refine F.ok sc__law_draw (fun vs H Q E h => ?_) (fun cdv A outer s H vs Q E hr h => ?_)
  · obtain ⟨N, pd, pl, m, b, rfl, _⟩ := h
    rfl
  · obtain ⟨N, pd, pl, m, b, rfl, l, S, hm, hb, hbz, k⟩ := h
    have ne := st_ne S
    obtain ⟨pc, cells, lefts, n, e1, e2, e3, e4, e5, e6, e7⟩ := S.ex
    refine ⟨_, (pss_cons (ps_set (i := 2) sc__law_draw.nd rfl (Or.inl rfl) (pe_dget (hu_of hr) (pv 0) pe_str (fun _ _ => rfl)))
      (pss_cons (ps_dput (hu_of hr) (pv 0) pe_str (pe_op op_add (pv 2) pe_int) rfl)
      (pss_cons (ps_set (i := 3) sc__law_draw.nd rfl (Or.inl rfl) (pe_op op_modN (pe_callTy call_int1 (by rfl) T.f_int (by decide +kernel) (pa_cons (pv 2) pa_nil)) (pe_callB call_len_seq (by rfl) T.f_len (by decide +kernel) (pa_cons (pe_dget (hu_of hr) (pv 0) pe_str (fun _ _ => rfl)) pa_nil))))
      (pss_cons (ps_set (i := 4) sc__law_draw.nd rfl (Or.inl rfl) (pe_ix ix_list (pe_dget (hu_of hr) (pv 0) pe_str (fun _ _ => rfl)) (pv 3) (fun _ _ => rfl)))
      (pss_cons (ps_if (pt_cmpR op_gt (pv 4) pe_int (nomark _)) (pss_cons (ps_asg (pe_op op_fdivW (pv 4) (pv 1)) (pg_sub (pe_dget (hu_of hr) (pv 0) pe_str (fun _ _ => rfl)) (pv 3) set_list))
      (pss_one (ps_ret (pe_op op_modN (pe_callTy call_int1 (by rfl) T.f_int (by decide +kernel) (pa_cons (pv 4) pa_nil)) (pv 1))))) pss_nil)
      (pss_cons (ps_set (i := 5) sc__law_draw.nd rfl (Or.inl rfl) (pe_ce C__law_mixed (hr.mono (by decide)) pass0 (pa_cons (pe_ce C__law_mixed (hr.mono (by decide)) pass0 (pa_cons (pe_ix ix_list (pe_dget (hu_of hr) (pv 0) pe_str (fun _ _ => rfl)) (pv 3) (fun _ _ => rfl)) (pa_cons (pv 2) pa_nil))) (pa_cons (pe_op op_add pe_int (pv 2)) pa_nil))))
      (pss_one (ps_ret (pe_op op_modN (pe_op op_fdivW (pe_callTy call_int1 (by rfl) T.f_int (by decide +kernel) (pa_cons (pe_op op_add (pe_op op_mulW (pv 5) pe_int) (pe_ce C__law_mixed (hr.mono (by decide)) pass0 (pa_cons (pv 5) (pa_cons (pe_op op_add pe_int (pv 2)) pa_nil)))) pa_nil)) pe_int) (pv 1)))))))))), ?_⟩
    -- at = state['at']; state['at'] = at + 1
    refine ⟨_, rfl, pd, _, rfl, get_at e1, _, rfl, _, _, rfl, rfl, _, rfl, pd, _, rfl, put_at e1, ?_⟩
    have c1 : Chg pd pl H (upd H pd (.dK (stK pc pl (n + 1)))) := fun a o h1 h2 e => by rw [upd_ne h1]; exact e
    have d1 : (upd H pd (.dK (stK pc pl (n + 1)))) pd = some (.dK (stK pc pl (n + 1))) := upd_same
    have d2 : (upd H pd (.dK (stK pc pl (n + 1)))) pl = some (.lst (lefts.map V.int)) := by rw [upd_ne (Ne.symm ne)]; exact e2
    have d3c : SqL K (cut N (upd H pd (.dK (stK pc pl (n + 1))))) pc (cells.map V.int) := by rw [cut_upd S.md]; exact e3
    have d3 : SqL K (upd H pd (.dK (stK pc pl (n + 1)))) pc (cells.map V.int) := lst_same (cut_same _ _) d3c
    have S1 : St K N (upd H pd (.dK (stK pc pl (n + 1)))) pd pl (m + 1) := ⟨S.md, S.ml, pc, cells, lefts, n + 1, d1, d2, d3c, e4, e5, e6, by omega⟩
    -- spot
    refine ⟨_, rfl, .inl ⟨_, rfl, _, rfl, pd, _, rfl, get_cells d1, pc, _, rfl, .inl d3, _, _, rfl, rfl, ?_, ?_⟩⟩
    · rw [List.length_map]
      show ((cells.length : Nat) : Int) ≠ 0
      omega
    have es : ((n : Nat) : Int).fmod ((cells.map V.int).length : Nat) = ((n % cells.length : Nat) : Int) := by
      rw [List.length_map, Int.fmod_eq_emod_of_nonneg _ (by omega)]
      rfl
    have hj : n % cells.length < cells.length := Nat.mod_lt _ (by omega)
    have hjl : n % cells.length < lefts.length := by omega
    have gl : (lefts.map V.int)[n % cells.length]? = some (.int (lefts[n % cells.length])) := by
      rw [List.getElem?_map, List.getElem?_eq_getElem hjl]
      rfl
    have gc : (cells.map V.int)[n % cells.length]? = some (.int (cells[n % cells.length])) := by
      rw [List.getElem?_map, List.getElem?_eq_getElem hj]
      rfl
    have al : atI (lefts.map V.int) (((n : Nat) : Int).fmod ((cells.map V.int).length : Nat)) = some (.int (lefts[n % cells.length])) := by rw [es]; exact atI_nat gl
    have ac : atI (cells.map V.int) (((n : Nat) : Int).fmod ((cells.map V.int).length : Nat)) = some (.int (cells[n % cells.length])) := by rw [es]; exact atI_nat gc
    -- left
    refine ⟨_, rfl, pd, _, rfl, get_lefts d1, _, rfl, pl, _, _, _, rfl, rfl, .inl (.inl d2), al, ?_⟩
    refine ⟨_, rfl, _, _, rfl, rfl, _, rfl, ?_⟩
    by_cases hl : 0 < lefts[n % cells.length]
    · rw [decide_eq_true hl]
      refine iteT ?_
      refine ⟨_, rfl, _, rfl, _, _, rfl, rfl, ⟨hb, hbz⟩, _, rfl, pd, _, rfl, get_lefts d1, _, rfl, pl, _, _, n % cells.length, rfl, rfl, d2, ?_, ?_⟩
      · rw [es, List.length_map]
        exact ixN_nat hjl
      refine ⟨_, rfl, .inl ⟨_, rfl, _, rfl, _, _, rfl, rfl, (by show b ≠ 0; omega), ?_⟩⟩
      have r := fmod_range (lefts[n % cells.length]) hb
      refine k _ _ r.1 r.2 (c1.trans fun a o h1 h2 e => by rw [upd_ne h2]; exact e) ⟨S.md, S.ml, pc, cells, lefts.set (n % cells.length) (lefts[n % cells.length] / b), n + 1, ?_, ?_, ?_, ?_, e5, e6, by omega⟩
      · rw [upd_ne ne]
        exact d1
      · rw [upd_same, List.map_set]
      · rw [cut_upd S.ml]
        exact d3c
      · rw [List.length_set]
        exact e4
    · rw [decide_eq_false hl]
      refine iteF ?_
      refine ⟨_, rfl, pd, _, rfl, get_cells d1, _, rfl, pc, _, _, _, rfl, rfl, d3, ac, _, rfl, _, _, rfl, by omega, by omega, fun r1 h1 h2 => ?_⟩
      refine ⟨_, rfl, _, _, rfl, rfl, _, _, rfl, by omega, by omega, fun r2 h3 h4 => ?_⟩
      have b2 : r2.natAbs < 2 ^ 31 := Nat.lt_of_lt_of_le (show r2.natAbs < 2147483647 by omega) (by decide)
      refine ⟨_, rfl, _, _, rfl, rfl, W2 b2 (d := 31) (by decide) (by decide), _, rfl, _, rfl, _, _, rfl, rfl, _, _, rfl, by omega, by omega, fun r3 h5 h6 => ?_⟩
      refine ⟨_, _, rfl, rfl, .inl ⟨_, rfl, _, _, rfl, rfl, wide_div (b := 7) (by decide) (by decide) (by decide) (by decide), _, rfl, _, _, rfl, rfl, (by show b ≠ 0; omega), ?_⟩⟩
      have r := fmod_range ((r2 * 2147483647 + r3) / 64) hb
      exact k _ _ r.1 r.2 c1 S1
/-! ### a choice, a number -/
def sp_law_of (K : PySem.W.Frag) : Sp := fun vs H Q _ => ∃ (N : List Addr) (pd pl a : Addr) (m : Nat) (xs : List V), vs = [.ref pd, .ref a] ∧ Live N H ∧ St K N H pd pl m ∧ m ≤ 900000 ∧ SqL K (cut N H) a xs ∧ 1 ≤ xs.length ∧ xs.length ≤ 1000 ∧
  ∀ (v : V) (H' : Hp), v ∈ xs → Chg pd pl H H' → St K N H' pd pl (m + 1) → Q v H'
theorem ok__law_of (F : Fun K "_law_of" "_law_of" s__law_of f fd) (T : Txt K mg t1 t2 t3) (C__law_draw : Ce P w K mg base CX0 2 "_law_draw" ["state", "limit"] (sp_law_draw K)) : FnOk P w K mg base CX0 3 f fd ["state", "some"] (sp_law_of K) := by
  refine F.ok sc__law_of (fun vs H Q E h => ?_) (fun cdv A outer s H vs Q E hr h => ?_)
  · obtain ⟨N, pd, pl, a, m, xs, rfl, _⟩ := h
    rfl
  · obtain ⟨N, pd, pl, a, m, xs, rfl, l, S, hm, ha, h1, h2, k⟩ := h
    refine ⟨_, (pss_one (ps_ret (pe_ix ix_list (pv 1) (pe_ce C__law_draw (hr.mono (by decide)) pass0 (pa_cons (pv 0) (pa_cons (pe_callB call_len_seq (by rfl) T.f_len (by decide +kernel) (pa_cons (pv 1) pa_nil)) pa_nil))) (fun _ _ => rfl)))), ?_⟩
    refine ⟨_, rfl, _, rfl, _, rfl, a, xs, rfl, .inl (lst_same (cut_same _ _) ha), N, pd, pl, m, _, rfl, l, S, hm, by omega, ?_, fun r H' r0 r1 c S' => ?_⟩
    · refine Nat.lt_of_lt_of_le (log_of (n := 10) (by decide) ?_) (by decide)
      rw [Int.natAbs_natCast]
      exact Nat.lt_of_le_of_lt h2 (by decide)
    · have hr : r = ((r.toNat : Nat) : Int) := by omega
      have hlt : r.toNat < xs.length := by omega
      refine ⟨a, xs, r, xs[r.toNat], rfl, rfl, lst_same (cut_same N _) (lst_same (c.cut S.md S.ml) ha), ?_, k _ _ (List.getElem_mem _) c S'⟩
      have e := atI_nat (xs := xs) (List.getElem?_eq_getElem hlt)
      rw [← hr] at e
      exact e
structure NumR (wd bl : Int) (q : Int × Int) : Prop where
  low : Low q
  lo : -wd ≤ q.1
  hi : q.1 ≤ wd
  bot : q.2 ≤ bl
theorem fr_numR {a b wd bl : Int} (h1 : -wd ≤ a) (h2 : a ≤ wd) (h3 : 0 < b) (h4 : b ≤ bl) : NumR wd bl (fr a b) := by
  have x : (fr a b).1.natAbs ≤ a.natAbs := natAbs_div_le _ _
  have y : (fr a b).2.natAbs ≤ b.natAbs := natAbs_div_le _ _
  have p := fr_pos (a := a) h3
  exact ⟨fr_low h3, by omega, by omega, by omega⟩
def sp_law_number (K : PySem.W.Frag) : Sp := fun vs H Q _ => ∃ (N : List Addr) (pd pl : Addr) (m : Nat) (wd bl : Int), vs = [.ref pd, .int wd, .int bl] ∧ Live N H ∧ St K N H pd pl m ∧ m ≤ 800000 ∧ 0 ≤ wd ∧ 0 < bl ∧ wd.natAbs < 2 ^ 300 ∧ bl.natAbs < 2 ^ 300 ∧
  ∀ (v : V) (q : Int × Int) (H' : Hp), Chg pd pl H H' → St K N H' pd pl (m + 2) → Dp K (cut N H') v (nD q) → NumR wd bl q → Q v H'
theorem log_small {a : Int} {n : Nat} (h : a.natAbs < 2 ^ n) (h0 : 0 < n) (h1 : n ≤ 9000) : a.natAbs.log2 < 9000 := Nat.lt_of_lt_of_le (log_of h0 h) h1
theorem fr_ne {a b : Int} (h : 0 < b) (ha : a ≠ 0) : (fr a b).1 ≠ 0 := by
  intro z
  have e := Int.ediv_mul_cancel (gc_dl a b)
  have z' : a / gc a b = 0 := z
  rw [z', Int.zero_mul] at e
  exact ha e.symm
/-! ### a step -/
/-- a drawn step: its numbers, its head not nought -/
structure StepR (wd bl : Int) (n : Nat) (s : List (Int × Int)) : Prop where
  len : s.length = n
  num : ∀ q ∈ s, NumR wd bl q
  head : ∀ q, s.getLast? = some q → q.1 ≠ 0
def sp_law_step (K : PySem.W.Frag) : Sp := fun vs H Q _ => ∃ (N : List Addr) (pd pl : Addr) (m n : Nat) (wd bl : Int), vs = [.ref pd, .int n, .int wd, .int bl] ∧ Live N H ∧ St K N H pd pl m ∧ m ≤ 700000 ∧ n ≤ 100 ∧ 0 < wd ∧ 0 < bl ∧ wd.natAbs < 2 ^ 300 ∧ bl.natAbs < 2 ^ 300 ∧
  ∀ (v : V) (s : List (Int × Int)) (H' : Hp), Chg pd pl H H' → St K N H' pd pl (m + 2 * n + 3) → Dp K (cut N H') v (sD s) → StepR wd bl (n + 1) s → Q v H'
theorem cut_sub {N : List Addr} {H : Hp} (D : Addr) : Same (cut (D :: N) H) (cut N H) := fun a o e => by
  by_cases h : a ∈ N
  · rw [cut_in (List.mem_cons_of_mem _ h)] at e; cases e
  · by_cases h2 : a = D
    · rw [cut_in (by rw [h2]; exact List.mem_cons_self)] at e; cases e
    · rw [cut_out (by intro z; rcases List.mem_cons.mp z with z | z; exact h2 z; exact h z)] at e
      rw [cut_out h]; exact e
theorem cut_add {N : List Addr} {H : Hp} {D : Addr} (h : H D = none) (o : HO) : Same (cut N H) (cut (D :: N) (upd H D o)) := fun a u e => by
  by_cases h1 : a ∈ N
  · rw [cut_in h1] at e; cases e
  · rw [cut_out h1] at e
    have : a ≠ D := ne_of_none e h
    rw [cut_out (by intro z; rcases List.mem_cons.mp z with z | z; exact this z; exact h1 z), upd_ne this]
    exact e
/-- the state with one more object that may change -/
theorem St.push {N : List Addr} {H : Hp} {pd pl D : Addr} {m : Nat} (S : St K N H pd pl m) (h : H D = none) (o : HO) : St K (D :: N) (upd H D o) pd pl m := by
  obtain ⟨pc, cells, lefts, n, e1, e2, e3, e4⟩ := S.ex
  refine ⟨List.mem_cons_of_mem _ S.md, List.mem_cons_of_mem _ S.ml, pc, cells, lefts, n, ?_, ?_, lst_same (cut_add h o) e3, e4⟩
  · rw [upd_ne (ne_of_none e1 h)]; exact e1
  · rw [upd_ne (ne_of_none e2 h)]; exact e2
theorem St.pop {N : List Addr} {H : Hp} {pd pl D : Addr} {m : Nat} (S : St K (D :: N) H pd pl m) (h1 : pd ∈ N) (h2 : pl ∈ N) : St K N H pd pl m := by
  obtain ⟨pc, cells, lefts, n, e1, e2, e3, e4⟩ := S.ex
  exact ⟨h1, h2, pc, cells, lefts, n, e1, e2, lst_same (cut_sub D) e3, e4⟩
theorem St.setD {N : List Addr} {H : Hp} {pd pl D : Addr} {m : Nat} (S : St K (D :: N) H pd pl m) (h1 : D ≠ pd) (h2 : D ≠ pl) (o : HO) : St K (D :: N) (upd H D o) pd pl m := by
  obtain ⟨pc, cells, lefts, n, e1, e2, e3, e4⟩ := S.ex
  refine ⟨S.md, S.ml, pc, cells, lefts, n, by rw [upd_ne (Ne.symm h1)]; exact e1, by rw [upd_ne (Ne.symm h2)]; exact e2, ?_, e4⟩
  rw [cut_upd List.mem_cons_self]
  exact e3
theorem Live.push {N : List Addr} {H : Hp} {D : Addr} (l : Live N H) (h : H D = none) (o : HO) : Live (D :: N) (upd H D o) := fun a ha => by
  by_cases e : a = D
  · rw [e, upd_same]; simp
  · rw [upd_ne e]
    rcases List.mem_cons.mp ha with z | z
    · exact absurd z e
    · exact l a z
theorem Live.setD {N : List Addr} {H : Hp} {D : Addr} (l : Live N H) (o : HO) : Live N (upd H D o) := fun a ha => by
  by_cases e : a = D
  · rw [e, upd_same]; simp
  · rw [upd_ne e]; exact l a ha
/-- n drawn numbers in a list -/
theorem draws_list {N : List Addr} {H : Hp} {pd pl D : Addr} {m n : Nat} {wd bl : Int} {g : TG} {te : TE} {vs : List Nat} {σ : L2.St} {Qd : Hp → Prop} (l : Live N H) (S : St K N H pd pl m) (hD : H D = none) (hn : n ≤ 1000)
    (hte : ∀ i H1 Q1, i < n → Live (D :: N) H1 → St K (D :: N) H1 pd pl (m + 2 * i) → (∀ (v : V) (q : Int × Int) (H' : Hp), Chg pd pl H1 H' → St K (D :: N) H' pd pl (m + 2 * i + 2) → Dp K (cut (D :: N) H') v (nD q) → NumR wd bl q → Q1 v H') →
      g (.int (0 + (i : Int))) (wipe σ vs) H1 fun σ2 H2 => wipe σ2 vs = wipe σ vs ∧ te σ2 H2 Q1)
    (hd : ∀ (xs : List V) (qs : List (Int × Int)) (H' : Hp), (∀ b o, b ≠ pd → b ≠ pl → H b = some o → H' b = some o) → Live N H' → St K N H' pd pl (m + 2 * n) → H' D = some (.lst xs) → DpAll K (cut N H') xs (qs.map nD) → qs.length = n → (∀ q ∈ qs, NumR wd bl q) → Qd H') :
    ∃ W : Nat → Nat → Hp → Prop, (∃ m, W 0 m (upd H D (.lst []))) ∧ ∀ i m H, W i m H →
      ((Itr 0 n).stop i H ∧ Qd H) ∨ ((Itr 0 n).go i H ∧ ∃ Nx : Hp → Prop, (∀ H', Nx H' → ∃ m', m' < m ∧ W (i + 1) m' H') ∧ ∀ x H', (Itr 0 n).yld i H x H' → g x (wipe σ vs) H' fun σ2 H2 => wipe σ2 vs = wipe σ vs ∧ tYes σ2 H2 fun b H3 =>
        if b = true then te σ2 H3 fun y H4 => ∃ acc, H4 D = some (.lst acc) ∧ acc.length < sizeLine ∧ Nx (upd H4 D (.lst (acc ++ [y]))) else Nx H3) := by
  have nd1 : D ≠ pd := by
    obtain ⟨pc, cells, lefts, n, e1, _⟩ := S.ex
    exact Ne.symm (ne_of_none e1 hD)
  have nd2 : D ≠ pl := by
    obtain ⟨pc, cells, lefts, n, e1, e2, _⟩ := S.ex
    exact Ne.symm (ne_of_none e2 hD)
  refine lc_range (lo := 0) (n := n) (fun i H1 => (∀ b o, b ≠ pd → b ≠ pl → H b = some o → H1 b = some o) ∧ Live (D :: N) H1 ∧ St K (D :: N) H1 pd pl (m + 2 * i) ∧ ∃ (xs : List V) (qs : List (Int × Int)), H1 D = some (.lst xs) ∧ DpAll K (cut (D :: N) H1) xs (qs.map nD) ∧ qs.length = i ∧ ∀ q ∈ qs, NumR wd bl q)
    ⟨fun b o _ _ e => same_new hD b o e, l.push hD _, S.push hD _, [], [], upd_same, .nil, rfl, fun _ h => (by cases h)⟩ ?_ ?_
  · rintro i H1 hi ⟨c, l1, S1, xs, qs, e1, e2, e3, e4⟩
    have key := hte i H1 (fun y H4 => ∃ acc, H4 D = some (.lst acc) ∧ acc.length < sizeLine ∧
      ((∀ b o, b ≠ pd → b ≠ pl → H b = some o → (upd H4 D (.lst (acc ++ [y]))) b = some o) ∧ Live (D :: N) (upd H4 D (.lst (acc ++ [y]))) ∧ St K (D :: N) (upd H4 D (.lst (acc ++ [y]))) pd pl (m + 2 * (i + 1)) ∧ ∃ (xs : List V) (qs : List (Int × Int)), (upd H4 D (.lst (acc ++ [y]))) D = some (.lst xs) ∧ DpAll K (cut (D :: N) (upd H4 D (.lst (acc ++ [y])))) xs (qs.map nD) ∧ qs.length = i + 1 ∧ ∀ q ∈ qs, NumR wd bl q)) hi l1 S1 (fun v q H' c2 S2 hv hq => by
        have el : xs.length = qs.length := by rw [e2.length, List.length_map]
        refine ⟨xs, c2 D _ nd1 nd2 e1, small1000 (by omega), fun b o h1 h2 e => ?_, (S2.live c2 l1).setD _, (S2.setD nd1 nd2 _).more (by omega), xs ++ [v], qs ++ [q], upd_same, ?_, by rw [List.length_append, e3]; rfl, fun r hr => ?_⟩
        · rw [upd_ne (ne_of_none e hD)]
          exact c2 b o h1 h2 (c b o h1 h2 e)
        · rw [cut_upd List.mem_cons_self, List.map_append]
          exact DpAll.append (e2.ext (c2.cut S1.md S1.ml)) (.cons hv .nil)
        · rcases List.mem_append.mp hr with z | z
          · exact e4 r z
          · rw [List.mem_singleton.mp z]; exact hq)
    exact key
  · rintro H1 ⟨c, l1, S1, xs, qs, e1, e2, e3, e4⟩
    exact hd xs qs H1 c (fun a ha => l1 a (List.mem_cons_of_mem _ ha)) (S1.pop S.md S.ml) e1 (e2.ext (cut_sub D)) e3 e4
theorem dp_lst_un {N : List Addr} {H : Hp} {D : Addr} {xs : List V} (nD' : D ∉ N) (h : H D = some (.lst xs)) : SqL K (cut N H) D xs := .inl (.inl (cut_at nD' h))
/-! ### a plain step -/
def sp_law_plain (K : PySem.W.Frag) : Sp := fun vs H Q _ => ∃ (N : List Addr) (pd pl : Addr) (m n : Nat) (wd bl : Int), vs = [.ref pd, .int n, .int wd, .int bl] ∧ Live N H ∧ St K N H pd pl m ∧ m ≤ 700000 ∧ 1 ≤ n ∧ n ≤ 100 ∧ 0 < wd ∧ 0 < bl ∧ wd.natAbs < 2 ^ 300 ∧ bl.natAbs < 2 ^ 300 ∧
  ∀ (v : V) (s : List (Int × Int)) (H' : Hp), Chg pd pl H H' → St K N H' pd pl (m + 2 * n + 3) → Dp K (cut N H') v (sD s) → StepR wd bl (n + 1) s → s[0]? = some (0, 1) ∧ s.getLast? = some (1, 1) → Q v H'
end
end My

set_option Elab.async false
set_option linter.all false
set_option maxRecDepth 100000
set_option maxHeartbeats 4000000
set_option exponentiation.threshold 20000
namespace My
open PySem PySem.Spec PyProof.Rows L2
/-! ### data whose text may be written -/
structure Sh (n k : Nat) (d : PyData) : Prop where
  ok : d.showable = true
  nod : d.hasDict = false
  deep : d.depth ≤ k
  len : d.shown.length ≤ n
theorem Sh.mono {n m k l : Nat} {d : PyData} (h : Sh n k d) (h1 : n ≤ m) (h2 : k ≤ l) : Sh m l d := ⟨h.ok, h.nod, Nat.le_trans h.deep h2, Nat.le_trans h.len h1⟩
theorem sh_int {i : Int} (h : i.natAbs < 2 ^ 1920) : Sh 1921 0 (.int i) := by
  have h1 := log_of (by decide) h
  exact ⟨by simpa only [PyData.showable, decide_eq_true_eq] using h1, by simp only [PyData.hasDict], by simp only [PyData.depth]; exact Nat.le_refl _, by simpa only [PyData.shown] using int_text_len_1921 h1⟩
theorem sh_bool {b : Bool} : Sh 1921 0 (.bool b) := by cases b <;> exact ⟨by decide, by decide, by decide, by decide⟩
theorem sh_none : Sh 1921 0 .none := ⟨by decide, by decide, by decide, by decide⟩
theorem sh_all {n k : Nat} : ∀ {ds : List PyData}, (∀ d ∈ ds, Sh n k d) → PyData.showableAll ds = true ∧ PyData.hasDictAll ds = false ∧ PyData.depthAll ds ≤ k ∧ ((PyData.shownAll ds).map (·.length)).sum ≤ ds.length * n
  | [], _ => by
    simp only [PyData.showableAll, PyData.hasDictAll, PyData.depthAll, PyData.shownAll, List.map_nil, List.sum_nil]
    exact ⟨trivial, trivial, Nat.zero_le _, Nat.zero_le _⟩
  | d :: ds, h => by
    obtain ⟨a, b, c, e⟩ := sh_all fun x hx => h x (List.mem_cons_of_mem _ hx)
    have q := h d List.mem_cons_self
    simp only [PyData.showableAll, PyData.hasDictAll, PyData.depthAll, PyData.shownAll, List.map_cons, List.sum_cons, List.length_cons, Bool.and_eq_true, Bool.or_eq_false_iff]
    refine ⟨⟨q.ok, a⟩, ⟨q.nod, b⟩, Nat.max_le.mpr ⟨q.deep, c⟩, ?_⟩
    have := q.len
    rw [Nat.add_mul, Nat.one_mul]
    omega
theorem shownAll_len : ∀ ds : List PyData, (PyData.shownAll ds).length = ds.length
  | [] => rfl
  | d :: ds => by simp only [PyData.shownAll, List.length_cons, shownAll_len ds]
theorem sh_tup {n k : Nat} {ds : List PyData} (h : ∀ d ∈ ds, Sh n k d) : Sh (ds.length * (n + 2) + 3) (k + 1) (.tuple ds) := by
  obtain ⟨a, b, c, e⟩ := sh_all h
  have t := tupleText_len_le (PyData.shownAll ds)
  rw [shownAll_len] at t
  refine ⟨by simpa only [PyData.showable] using a, by simpa only [PyData.hasDict] using b, by simp only [PyData.depth]; omega, ?_⟩
  simp only [PyData.shown]
  rw [Nat.mul_add]
  omega
theorem sh_lst {n k : Nat} {ds : List PyData} (h : ∀ d ∈ ds, Sh n k d) : Sh (ds.length * (n + 2) + 3) (k + 1) (.list ds) := by
  obtain ⟨a, b, c, e⟩ := sh_all h
  have t := listText_len_le (PyData.shownAll ds)
  rw [shownAll_len] at t
  refine ⟨by simpa only [PyData.showable] using a, by simpa only [PyData.hasDict] using b, by simp only [PyData.depth]; omega, ?_⟩
  simp only [PyData.shown]
  rw [Nat.mul_add]
  omega
theorem sh_num {q : Int × Int} (h1 : q.1.natAbs < 2 ^ 1920) (h2 : q.2.natAbs < 2 ^ 1920) : Sh 3849 1 (nD q) := by
  have := sh_tup (n := 1921) (k := 0) (ds := [.int q.1, .int q.2]) (fun d hd => by
    rcases List.mem_cons.mp hd with z | z
    · rw [z]; exact sh_int h1
    · rw [List.mem_singleton] at z
      rw [z]; exact sh_int h2)
  exact this
theorem sh_step {s : List (Int × Int)} {m : Nat} (h : ∀ q ∈ s, q.1.natAbs < 2 ^ 1920 ∧ q.2.natAbs < 2 ^ 1920) (hl : s.length ≤ m) : Sh (m * 3851 + 3) 2 (sD s) := by
  have := sh_tup (n := 3849) (k := 1) (ds := s.map nD) (fun d hd => by
    obtain ⟨q, hq, rfl⟩ := List.mem_map.mp hd
    exact sh_num (h q hq).1 (h q hq).2)
  refine this.mono ?_ (Nat.le_refl _)
  rw [List.length_map]
  have : s.length * 3851 ≤ m * 3851 := Nat.mul_le_mul_right _ hl
  omega
section
variable {P : Program} {w : World} {K : PySem.W.Frag} {mg : Str → Option Value} {base : Heap} {t1 t2 t3 : Tok} {f : Addr} {fd : FuncData} {ad : Ads}
/-! ### the law's comparing -/
def sp_law_like (K : PySem.W.Frag) : Sp := fun vs H Q _ => ∃ (v u : V) (d : PyData), vs = [v, u] ∧ Dp K H v d ∧ Dp K H u d ∧ Sh 1000000 60 d ∧ isDisplay d = true ∧ Q (.bl true) H
theorem ok__law_like (F : Fun K "_law_like" "_law_like" s__law_like f fd) (T : Txt K mg t1 t2 t3) : FnG P w K mg base CX0 1 f fd ["got", "due"] (sp_law_like K) := by
  refine fun_g F sc__law_like (fun vs H Q E h => ?_) (fun cdv A outer s H vs Q E hcdv hgd hr h => ?_)
  · obtain ⟨v, u, d, rfl, _⟩ := h
    rfl
  · obtain ⟨v, u, d, rfl, h1, h2, S, hD, k⟩ := h
    have hgd : (A.deeper (envOfC "_law_like" (defScope s__law_like) s.heap.objs.size f cdv)).guards = some [] := hgd
    refine ⟨_, (pss_one (ps_ret (pe_cmpR op_eq (pe_callB (cr_repr hgd (un64 hr)) (by rfl) T.f_repr (by decide +kernel) (pa_cons (pv 0) pa_nil)) (pe_callB (cr_repr hgd (un64 hr)) (by rfl) T.f_repr (by decide +kernel) (pa_cons (pv 1) pa_nil)) (nomark _)))), ?_⟩
    have hz : d.shown.length ≤ sizeLine := Nat.le_trans S.len (by rw [sizeLine_eq]; decide)
    refine ⟨_, rfl, v, d, rfl, h1, S.ok, S.nod, S.deep, hz, hD, _, rfl, u, d, rfl, h2, S.ok, S.nod, S.deep, hz, hD, ?_⟩
    refine ⟨rfl, ?_⟩
    rw [decide_eq_true rfl]
    exact k
/-! ### the state's beginning -/
def sp_law_begin (K : PySem.W.Frag) : Sp := fun vs H Q _ => ∃ (N : List Addr) (a : Addr) (ns : List Int), vs = [.ref a] ∧ Live N H ∧ SqL K H a (ns.map V.int) ∧ ns.length ≤ 63 ∧
  ∀ (pd pl : Addr) (H' : Hp), Same H H' → pd ∉ N → pl ∉ N → Live (pd :: pl :: N) H' → St K (pd :: pl :: N) H' pd pl 0 → Q (.ref pd) H'
theorem shaped_ints (ns : List Int) : SeqAt.shaped (.list (ns.map PyData.int)) = true := by
  have h1 : ∀ l : List Int, PyData.canLayAll0 (l.map PyData.int) = true := fun l => by
    induction l with
    | nil => rfl
    | cons a l ih => rw [List.map_cons]; simp only [PyData.canLayAll0, PyData.canLay0, Bool.true_and]; exact ih
  have h2 : ∀ l : List Int, PyData.depthAll (l.map PyData.int) = 0 := fun l => by
    induction l with
    | nil => rfl
    | cons a l ih => rw [List.map_cons]; simp only [PyData.depthAll, PyData.depth, ih]; rfl
  unfold SeqAt.shaped
  simp only [PyData.canLay0, PyData.depth, h1, h2]
  rfl
theorem eqv_nil {ns : List Int} : PyData.eqv (.list (ns.map PyData.int)) (.list []) = decide (ns = []) := by
  cases ns with
  | nil => rfl
  | cons a l => rfl
theorem ok__law_begin (F : Fun K "_law_begin" "_law_begin" s__law_begin f fd) (T : Txt K mg t1 t2 t3) : FnOk P w K mg base CX0 1 f fd ["script"] (sp_law_begin K) := by
  /- WHEN lefts = [ -/
  refine F.ok sc__law_begin (fun vs H Q E h => ?_) (fun cdv A outer s H vs Q E hr h => ?_)
  · obtain ⟨N, a, ns, rfl, _⟩ := h
    rfl
  · obtain ⟨N, a, ns, rfl, l, hS, hl, k⟩ := h
    refine ⟨_, (pss_cons (ps_set (i := 1) sc__law_begin.nd rfl (Or.inl rfl) (pe_ifExp (pt_cmpR (op_neD (un64 hr)) (pv 0) (pe_lst pa_nil) (nomark _)) (pe_callTy call_list_of (by rfl) T.f_list (by decide +kernel) (pa_cons (pv 0) pa_nil)) (pe_lst (pa_cons pe_int pa_nil))))
      (pss_cons (ps_setLc (i := 2) (own := [("cell", 3)]) (g := gName 3) rfl sc__law_begin.nd rfl rfl (sw_true rfl rfl rfl (by decide +kernel)) (pi_list (pv 1)) (blkOk_by (N := ["script", "cells_so", "lefts", "cell"]) (sc := defScope s__law_begin) (by decide +kernel)) (fun _ _ _ _ _ => by exact (pg_name (i := 3) sc__law_begin.nd rfl (Or.inl rfl))) (fun _ _ _ _ _ => by exact pts_nil) (fun _ _ _ _ _ => by exact (pe_ifExp (pt_cmpR op_ge (pv 3) (pe_op op_pow pe_int pe_int) (nomark _)) (pv 3) pe_int)))
      (pss_one (ps_ret (pe_disp (pps_cons pe_str (pv 1) (pps_cons pe_str (pv 2) (pps_cons pe_str pe_int pps_nil))) (by rfl) (by rfl) (fun z => by cases z) (by decide)))))), ?_⟩
    refine ⟨_, rfl, (by show 0 ≤ sizeLine; exact Nat.zero_le _), fun p0 n0 => ⟨.list (ns.map PyData.int), .list [], ?_, ?_, shaped_ints ns, by decide, ?_⟩⟩
    · exact .lst (lst_same (same_new n0) hS) (DpAll.ints ns)
    · exact .lst (.inl (.inl upd_same)) .nil
    · rw [eqv_nil]
      have S0 := same_new (o := .lst []) n0
      refine ⟨_, rfl, ?_⟩
      by_cases e : ns = []
      case' pos =>
        rw [decide_eq_true e]
        refine iteF ⟨(by show 1 ≤ sizeLine; decide), fun pc nc => ?_⟩
        have hpc : (upd (upd H p0 (.lst [])) pc (.lst [V.int 0])) pc = some (.lst ([0].map V.int)) := upd_same
        have S1 := S0.trans (same_new (o := .lst [V.int 0]) nc)
        have h1 : 1 ≤ [(0 : Int)].length := by decide
        have h2 : [(0 : Int)].length ≤ 63 := by decide
        generalize (upd (upd H p0 (.lst [])) pc (.lst [V.int 0])) = H1 at hpc S1 ⊢
        generalize [(0 : Int)] = cells at hpc h1 h2
      case' neg =>
        rw [decide_eq_false e]
        refine iteT ⟨_, rfl, a, _, rfl, .inl (lst_same S0 hS), fun pc nc => ?_⟩
        have hpc : (upd (upd H p0 (.lst [])) pc (.lst (ns.map V.int))) pc = some (.lst (ns.map V.int)) := upd_same
        have S1 := S0.trans (same_new (o := .lst (ns.map V.int)) nc)
        have h1 : 1 ≤ ns.length := by
          cases ns with
          | nil => exact absurd rfl e
          | cons a l => simp
        have h2 := hl
        generalize (upd (upd H p0 (.lst [])) pc (.lst (ns.map V.int))) = H1 at hpc S1 ⊢
        generalize ns = cells at hpc h1 h2
      all_goals
        have npc : pc ∉ N := (l.same S0).new nc
        have l1 := l.same S1
        refine ⟨_, rfl, pc, rfl, ⟨_, .inl (.inl hpc)⟩, fun D nD => ?_⟩
        have d3 : D ≠ pc := Ne.symm (ne_of_none hpc nD)
        have npl : D ∉ N := l1.new nD
        refine lc_list (K := K) (a := pc) (xs := cells.map V.int) (fun i H' => ∃ lefts : List Int, H' = upd H1 D (.lst (lefts.map V.int)) ∧ lefts.length = i)
          ⟨[], rfl, rfl⟩ ?_ ?_ ?_
        · rintro i H' _ ⟨lefts, rfl, _⟩
          exact .inl (.inl (by rw [upd_ne (Ne.symm d3)]; exact hpc))
        · rintro i x H' hx ⟨lefts, rfl, hi⟩
          obtain ⟨c, hc, rfl⟩ := map_get hx
          have hi2 := (List.getElem?_eq_some_iff.mp hc).1
          refine ⟨rfl, ?_⟩
          have fin : ∀ y : Int, ∃ acc, (upd H1 D (.lst (lefts.map V.int))) D = some (.lst acc) ∧ acc.length < sizeLine ∧ ∃ lefts' : List Int, upd (upd H1 D (.lst (lefts.map V.int))) D (.lst (acc ++ [V.int y])) = upd H1 D (.lst (lefts'.map V.int)) ∧ lefts'.length = i + 1 := fun y =>
            ⟨_, upd_same, by rw [List.length_map, sizeLine_eq]; omega, lefts ++ [y], by rw [upd_upd, List.map_append]; rfl, by rw [List.length_append, hi]; rfl⟩
          dsimp only [tYes]
          rw [if_pos rfl]
          refine ⟨_, rfl, _, _, rfl, rfl, (by show CPow 10 18; exact ⟨by decide, by decide, by decide⟩), _, _, rfl, rfl, _, rfl, ?_⟩
          by_cases hc9 : (10 : Int) ^ (18 : Int).toNat ≤ c
          · rw [decide_eq_true hc9]
            exact iteT ⟨_, rfl, fin _⟩
          · rw [decide_eq_false hc9]
            exact iteF (fin 0)
        · rintro H' ⟨lefts, rfl, hi⟩
          rw [List.length_map] at hi
          have hpc2 : (upd H1 D (.lst (lefts.map V.int))) pc = some (.lst (cells.map V.int)) := by rw [upd_ne (Ne.symm d3)]; exact hpc
          have hD2 : (upd H1 D (.lst (lefts.map V.int))) D = some (.lst (lefts.map V.int)) := upd_same
          have S2 := same_new (o := .lst (lefts.map V.int)) nD
          generalize upd H1 D (.lst (lefts.map V.int)) = H2 at hpc2 hD2 S2 ⊢
          have l2 := l1.same S2
          refine fun pd nd => ⟨_, rfl, _, rfl, ?_⟩
          have npd : pd ∉ N := l2.new nd
          have d1 : pd ≠ pc := Ne.symm (ne_of_none hpc2 nd)
          have d2 : D ≠ pd := ne_of_none hD2 nd
          refine ⟨upd_same, [(.inr "cells", .ref pc), (.inr "lefts", .ref D), (.inr "at", .int 0)], rfl, (by show 3 ≤ 15; decide), ?_⟩
          have e1 : upd (upd H2 pd (.dK [])) pd (.dK (mergeK [] [(.inr "cells", .ref pc), (.inr "lefts", .ref D), (.inr "at", .int 0)])) = upd (upd H2 pd (.dK [])) pd (.dK (stK pc D 0)) := rfl
          rw [e1]
          have q1 : (upd (upd H2 pd (.dK [])) pd (.dK (stK pc D 0))) pd = some (.dK (stK pc D 0)) := upd_same
          have q2 : (upd (upd H2 pd (.dK [])) pd (.dK (stK pc D 0))) D = some (.lst (lefts.map V.int)) := by rw [upd_ne d2, upd_ne d2]; exact hD2
          have q3 : (upd (upd H2 pd (.dK [])) pd (.dK (stK pc D 0))) pc = some (.lst (cells.map V.int)) := by rw [upd_ne (Ne.symm d1), upd_ne (Ne.symm d1)]; exact hpc2
          have q4 : Same H2 (upd (upd H2 pd (.dK [])) pd (.dK (stK pc D 0))) := fun b o e => by
            have x1 : b ≠ pd := ne_of_none e nd
            rw [upd_ne x1, upd_ne x1]
            exact e
          generalize upd (upd H2 pd (.dK [])) pd (.dK (stK pc D 0)) = H9 at q1 q2 q3 q4 ⊢
          refine k pd D H9 ((S1.trans S2).trans q4) npd npl (fun b hb => ?_) ⟨List.mem_cons_self, List.mem_cons_of_mem _ List.mem_cons_self, pc, cells, lefts, 0, q1, q2, .inl (.inl (cut_at ?_ q3)), hi.symm, h1, by omega, Nat.le_refl _⟩
          · rcases List.mem_cons.mp hb with z | hb
            · rw [z, q1]; simp
            · rcases List.mem_cons.mp hb with z | hb
              · rw [z, q2]; simp
              · exact l2.same q4 b hb
          · intro hb
            rcases List.mem_cons.mp hb with z | hb
            · exact d1 z.symm
            · rcases List.mem_cons.mp hb with z | hb
              · exact d3 z.symm
              · exact npc hb
end
end My

set_option Elab.async false
set_option linter.all false
set_option maxRecDepth 100000
set_option maxHeartbeats 4000000
set_option exponentiation.threshold 20000
namespace My
open PySem PySem.Spec PyProof.Rows L2 LamX
/-! ### what the law tells of a refusal -/

structure Exq (K : PySem.W.Frag) (mg : Str → Option Value) (ad : Ads) : Prop where
  nn : PySem.W.exmOne K (.ref ad.n) (.ref ad.n) = some true
  nr : PySem.W.exmOne K (.ref ad.n) (.ref ad.r) = some false
  np : PySem.W.exmOne K (.ref ad.n) (.ref ad.p) = some false
  ng : PySem.W.exmOne K (.ref ad.n) (.ref ad.g) = some false
  rn : PySem.W.exmOne K (.ref ad.r) (.ref ad.n) = some false
  rr : PySem.W.exmOne K (.ref ad.r) (.ref ad.r) = some true
  rp : PySem.W.exmOne K (.ref ad.r) (.ref ad.p) = some false
  rg : PySem.W.exmOne K (.ref ad.r) (.ref ad.g) = some false
  pn : PySem.W.exmOne K (.ref ad.p) (.ref ad.n) = some false
  pr : PySem.W.exmOne K (.ref ad.p) (.ref ad.r) = some false
  pp : PySem.W.exmOne K (.ref ad.p) (.ref ad.p) = some true
  pg : PySem.W.exmOne K (.ref ad.p) (.ref ad.g) = some false
  gn : PySem.W.exmOne K (.ref ad.g) (.ref ad.n) = some false
  gr : PySem.W.exmOne K (.ref ad.g) (.ref ad.r) = some false
  gp : PySem.W.exmOne K (.ref ad.g) (.ref ad.p) = some false
  gg : PySem.W.exmOne K (.ref ad.g) (.ref ad.g) = some true
def wordD : Out → PyData
  | .ok d => .list [d]
  | .er .num d => .tuple [.str "number", d]
  | .er .row d => .tuple [.str "row", d]
  | .er .par d => .tuple [.str "parameter", d]
  | .er .grt d => .tuple [.str "great", d]
def TTword (K : PySem.W.Frag) (ad : Ads) : (XK → Hp → VK → Prop) → Hp → VK → Prop := fun tl H Q => ∃ (N : List Addr) (o : Out), Live N H ∧ 
  (∀ (E : XK) (R : VK) (H1 : Hp), Same H H1 → ToldX K ad N H1 o R E → tl E H1 R) ∧ Told K N H (wordD o) Q
theorem gives_word {X : Cx} {ad : Ads} (XS : Exs X.prog X.w X.K X.mg X.base ad) (XQ : Exq X.K X.mg ad) (g : Addr) (cdg : Value) (q : Str) :
    GivesS X ["call", "error"] "_law_word" (defScope s__law_word) g cdg (defBody s__law_word) "call" q (TTword X.K ad) := by
  intro f c' s H Q tl act hco h
  obtain ⟨N, o, l, htl, k⟩ := h
  have m0 := XS.x_BadRow.g
  have x0 := XS.x_BadRow.xf
  have y0 := XS.x_BadRow.no
  have m1 := XS.x_BadNumber.g
  have x1 := XS.x_BadNumber.xf
  have y1 := XS.x_BadNumber.no
  have m2 := XS.x_BadParameter.g
  have x2 := XS.x_BadParameter.xf
  have y2 := XS.x_BadParameter.no
  have m3 := XS.x_TooGreat.g
  have x3 := XS.x_TooGreat.xf
  have y3 := XS.x_TooGreat.no
  refine ⟨_, (pss_one (ps_try7 rfl rfl sc__law_word.nd L2.takes0 (fun W pn xe tk _ => pss_one (ps_ret (pe_lst (pa_cons (act W pn xe _ _ tk) pa_nil))))
      (.cons (o := some 1) ⟨rfl, rfl, .inl m0⟩ ⟨rfl, rfl⟩ (fun a oe cls d pn hz hf => pss_one (ps_ret (pe_tup (pa_cons pe_str (pa_cons (pe_xf x0 y0 hz hf (pv 1)) pa_nil)))))
      (.cons (o := some 1) ⟨rfl, rfl, .inl m1⟩ ⟨rfl, rfl⟩ (fun a oe cls d pn hz hf => pss_one (ps_ret (pe_tup (pa_cons pe_str (pa_cons (pe_xf x1 y1 hz hf (pv 1)) pa_nil)))))
      (.cons (o := some 1) ⟨rfl, rfl, .inl m2⟩ ⟨rfl, rfl⟩ (fun a oe cls d pn hz hf => pss_one (ps_ret (pe_tup (pa_cons pe_str (pa_cons (pe_xf x2 y2 hz hf (pv 1)) pa_nil)))))
      (.cons (o := some 1) ⟨rfl, rfl, .inl m3⟩ ⟨rfl, rfl⟩ (fun a oe cls d pn hz hf => pss_one (ps_ret (pe_tup (pa_cons pe_str (pa_cons (pe_xf x3 y3 hz hf (pv 1)) pa_nil)))))
      .nil)))))), ?_⟩
  have S0 := Same.refl H
  refine ⟨rfl, S0 _ _ hco, htl _ _ _ S0 ?_⟩
  have fin : ∀ (xs : List V) (ds : List PyData) (H2 : Hp), Same H H2 → DpAll X.K (cut N H2) xs ds → Told X.K N H (.tuple ds) Q → ∀ p2, H2 p2 = none → Q (.ref p2) (upd H2 p2 (.tup xs)) := by
    intro xs ds H2 s2 hu k p2 n2
    exact told_tup k l (S0.trans s2) n2 hu
  cases o with
  | ok d =>
    intro v H2 s2 hd
    refine ⟨(by show 1 ≤ sizeLine; decide), fun p2 n2 => ?_⟩
    have y2 := same_new (o := .lst [v]) n2
    exact k _ _ ((S0.trans s2).trans y2) (.lst (.inl (.inl (cut_at ((l.same (S0.trans s2)).new n2) upd_same))) ((DpAll.cons hd .nil).ext (Same.cut N y2)))
  | er e d =>
    cases e with
    | num =>
      intro p u H2 s2 hp np hu
      refine ⟨false, XQ.nr, fun z => (by cases z), fun _ => ⟨true, XQ.nn, fun _ a na => ?_, fun z => (by cases z)⟩⟩
      refine ⟨_, rfl, rfl, rfl, p, _, u, rfl, hp, rfl, (by show 2 ≤ sizeLine; decide), fun p2 n2 => ?_⟩
      exact fin _ _ H2 s2 (.cons (.str _) (.cons hu .nil)) k p2 n2
    | row =>
      intro p u H2 s2 hp np hu
      refine ⟨true, XQ.rr, fun _ a na => ?_, fun z => (by cases z)⟩
      refine ⟨_, rfl, rfl, rfl, p, _, u, rfl, hp, rfl, (by show 2 ≤ sizeLine; decide), fun p2 n2 => ?_⟩
      exact fin _ _ H2 s2 (.cons (.str _) (.cons hu .nil)) k p2 n2
    | par =>
      intro p u H2 s2 hp np hu
      refine ⟨false, XQ.pr, fun z => (by cases z), fun _ => ⟨false, XQ.pn, fun z => (by cases z), fun _ => ⟨true, XQ.pp, fun _ a na => ?_, fun z => (by cases z)⟩⟩⟩
      refine ⟨_, rfl, rfl, rfl, p, _, u, rfl, hp, rfl, (by show 2 ≤ sizeLine; decide), fun p2 n2 => ?_⟩
      exact fin _ _ H2 s2 (.cons (.str _) (.cons hu .nil)) k p2 n2
    | grt =>
      intro p u H2 s2 hp np hu
      refine ⟨false, XQ.gr, fun z => (by cases z), fun _ => ⟨false, XQ.gn, fun z => (by cases z), fun _ => ⟨false, XQ.gp, fun z => (by cases z), fun _ => ⟨true, XQ.gg, fun _ a na => ?_, fun z => (by cases z)⟩⟩⟩⟩
      refine ⟨_, rfl, rfl, rfl, p, _, u, rfl, hp, rfl, (by show 2 ≤ sizeLine; decide), fun p2 n2 => ?_⟩
      exact fin _ _ H2 s2 (.cons (.str _) (.cons hu .nil)) k p2 n2
end My

set_option Elab.async false
set_option linter.all false
set_option maxRecDepth 100000
set_option maxHeartbeats 4000000
set_option exponentiation.threshold 20000
namespace My
open PySem PySem.Spec PyProof.Rows L2 LamX
section
variable {P : Program} {w : World} {K : PySem.W.Frag} {mg : Str → Option Value} {base : Heap} {t1 t2 t3 : Tok} {f : Addr} {fd : FuncData} {ad : Ads}
theorem eqv_num (p q : Int × Int) : PyData.eqv (nD p) (nD q) = (p.1 == q.1 && p.2 == q.2) := by
  simp [nD, PyData.eqv, PyData.eqvAll]
theorem isNum_of {wd bl : Int} {q : Int × Int} (h : NumR wd bl q) (h1 : wd ≤ 10 ^ 60) (h2 : bl ≤ 10 ^ 60) : isNum (nD q) = true := by
  obtain ⟨⟨l1, l2⟩, a, b, c⟩ := h
  show okNum q.1 q.2 = true
  unfold okNum
  simp only [Bool.and_eq_true, decide_eq_true_eq]
  exact ⟨by omega, by omega, by omega, by omega, l2⟩
theorem last_map {s : List (Int × Int)} {q : Int × Int} (h : s.getLast? = some q) : (s.map nD).getLast?.getD .none = nD q := by
  rw [List.getLast?_map, h]; rfl
theorem some_last {s : List (Int × Int)} (h : 1 ≤ s.length) : ∃ q, s.getLast? = some q := by
  cases e : s.getLast? with
  | none =>
    rw [List.getLast?_eq_none_iff] at e
    rw [e] at h
    simp at h
  | some q => exact ⟨q, rfl⟩
theorem isStep_of {wd bl : Int} {n : Nat} {s : List (Int × Int)} (h : StepR wd bl n s) (h1 : wd ≤ 10 ^ 60) (h2 : bl ≤ 10 ^ 60) (h3 : 2 ≤ n) (h4 : n ≤ 65) : isStep (sD s) = true := by
  have el := h.len
  obtain ⟨q, hq⟩ := some_last (s := s) (by omega)
  unfold sD
  rw [isStep_tup, List.length_map, last_map hq]
  have e1 : (s.map nD).all isNum = true := by
    rw [List.all_map, List.all_eq_true]
    exact fun r hr => isNum_of (h.num r hr) h1 h2
  have e2 : PyData.eqv (nD q) (.tuple [.int 0, .int 1]) = false := by
    show PyData.eqv (nD q) (nD (0, 1)) = false
    rw [eqv_num]
    have := h.head q hq
    simp [this]
  rw [e1, e2]
  simp
  omega
theorem small_num {wd bl : Int} {n : Nat} {q : Int × Int} (h : NumR wd bl q) (h1 : wd.natAbs < 2 ^ n) (h2 : bl.natAbs < 2 ^ n) : Bd n q := by
  obtain ⟨⟨l1, l2⟩, a, b, c⟩ := h
  exact ⟨l1, by omega, by omega⟩
theorem plain_is {wd bl : Int} {n : Nat} {s : List (Int × Int)} (h : StepR wd bl n s) (h3 : 2 ≤ n) : ∃ q0 q1, s[0]? = some q0 ∧ s.getLast? = some q1 := by
  have el := h.len
  obtain ⟨q, hq⟩ := some_last (s := s) (by omega)
  exact ⟨_, q, List.getElem?_eq_getElem (by omega), hq⟩
theorem atI_last' {xs : List V} {y : V} {n : Nat} (h : xs.length = n + 1) (hy : xs[n]? = some y) : atI xs (-1) = some y := by
  have hne : xs ≠ [] := by intro q; rw [q] at h; simp at h
  have e : xs.getLast hne = y := by
    rw [List.getLast_eq_getElem]
    obtain ⟨h4, h5⟩ := List.getElem?_eq_some_iff.mp hy
    rw [← h5]
    congr 1
    omega
  rw [← List.dropLast_concat_getLast hne, e]
  exact atI_last _ _
theorem valOf_bd {tb pb n : Nat} {s : List (Int × Int)} {x : Int × Int} (fit : Fit tb pb s) (hs : s ≠ []) (hx : Bd n x) : Bd (tb + (pb * s.length + 1) + (n + 1) * s.length + 1) (valOf s x) := by
  have tl : (tops s).length = s.length := by unfold tops; rw [List.length_map]
  have tne : tops s ≠ [] := by
    intro z
    rw [z] at tl
    exact hs (List.eq_nil_of_length_eq_zero tl.symm)
  have hT := tops_lt fit.top fit.bot
  have hhead : (tops s).getLast?.getD 0 ∈ tops s := by
    rw [List.getLast?_eq_some_getLast tne]
    exact List.getLast_mem tne
  have hb := horn_lt hx.top hx.bot (hT _ hhead) (tops s).dropLast.reverse (fun z hz => hT z ((List.dropLast_sublist _).subset (List.mem_reverse.mp hz)))
  have hl : (tops s).dropLast.reverse.length = s.length - 1 := by rw [List.length_reverse, List.length_dropLast, tl]
  rw [hl] at hb
  have e1 : (n + 1) * (s.length - 1) ≤ (n + 1) * s.length := Nat.mul_le_mul_left _ (by omega)
  have e2 : n * (s.length - 1) ≤ (n + 1) * s.length := Nat.le_trans (Nat.mul_le_mul_right _ (Nat.le_succ n)) e1
  have hlp := lcmL_pos s fit.pos
  have hll := lcmL_lt s fit.bot
  unfold valOf
  refine fr_bd (Int.mul_pos (by omega) (horn_pos hx.pos _)) (Nat.lt_of_lt_of_le hb.1 (Nat.pow_le_pow_right (by decide) (by omega))) ?_
  refine Nat.lt_of_lt_of_le (wide_lt (a := pb * s.length + 1) (by rw [Int.natAbs_natCast]; exact hll) hb.2) (Nat.pow_le_pow_right (by decide) (by omega))
theorem stepR_fit {wd bl : Int} {n k : Nat} {s : List (Int × Int)} (h : StepR wd bl n s) (h1 : wd.natAbs < 2 ^ k) (h2 : bl.natAbs < 2 ^ k) : Fit k k s :=
  ⟨fun q hq => (small_num (h.num q hq) h1 h2).pos, fun q hq => (small_num (h.num q hq) h1 h2).top, fun q hq => (small_num (h.num q hq) h1 h2).bot⟩
/-- n drawn things in a list -/
theorem draws_gen {N : List Addr} {H : Hp} {pd pl D : Addr} {m n q : Nat} {EE : PyData → Prop} {g : TG} {te : TE} {vs : List Nat} {σ : L2.St} {Qd : Hp → Prop} (l : Live N H) (S : St K N H pd pl m) (hD : H D = none) (hn : n ≤ 1000)
    (hte : ∀ i H1 Q1, i < n → Live (D :: N) H1 → St K (D :: N) H1 pd pl (m + q * i) → (∀ (v : V) (d : PyData) (H' : Hp), Chg pd pl H1 H' → St K (D :: N) H' pd pl (m + q * i + q) → Dp K (cut (D :: N) H') v d → EE d → Q1 v H') →
      g (.int (0 + (i : Int))) (wipe σ vs) H1 fun σ2 H2 => wipe σ2 vs = wipe σ vs ∧ te σ2 H2 Q1)
    (hd : ∀ (xs : List V) (qs : List PyData) (H' : Hp), (∀ b o, b ≠ pd → b ≠ pl → H b = some o → H' b = some o) → Live N H' → St K N H' pd pl (m + q * n) → H' D = some (.lst xs) → DpAll K (cut N H') xs qs → qs.length = n → (∀ d ∈ qs, EE d) → Qd H') :
    ∃ W : Nat → Nat → Hp → Prop, (∃ m, W 0 m (upd H D (.lst []))) ∧ ∀ i m H, W i m H →
      ((Itr 0 n).stop i H ∧ Qd H) ∨ ((Itr 0 n).go i H ∧ ∃ Nx : Hp → Prop, (∀ H', Nx H' → ∃ m', m' < m ∧ W (i + 1) m' H') ∧ ∀ x H', (Itr 0 n).yld i H x H' → g x (wipe σ vs) H' fun σ2 H2 => wipe σ2 vs = wipe σ vs ∧ tYes σ2 H2 fun b H3 =>
        if b = true then te σ2 H3 fun y H4 => ∃ acc, H4 D = some (.lst acc) ∧ acc.length < sizeLine ∧ Nx (upd H4 D (.lst (acc ++ [y]))) else Nx H3) := by
  have nd1 : D ≠ pd := by
    obtain ⟨pc, cells, lefts, n, e1, _⟩ := S.ex
    exact Ne.symm (ne_of_none e1 hD)
  have nd2 : D ≠ pl := by
    obtain ⟨pc, cells, lefts, n, e1, e2, _⟩ := S.ex
    exact Ne.symm (ne_of_none e2 hD)
  refine lc_range (lo := 0) (n := n) (fun i H1 => (∀ b o, b ≠ pd → b ≠ pl → H b = some o → H1 b = some o) ∧ Live (D :: N) H1 ∧ St K (D :: N) H1 pd pl (m + q * i) ∧ ∃ (xs : List V) (qs : List PyData), H1 D = some (.lst xs) ∧ DpAll K (cut (D :: N) H1) xs qs ∧ qs.length = i ∧ ∀ d ∈ qs, EE d)
    ⟨fun b o _ _ e => same_new hD b o e, l.push hD _, S.push hD _, [], [], upd_same, .nil, rfl, fun _ h => (by cases h)⟩ ?_ ?_
  · rintro i H1 hi ⟨c, l1, S1, xs, qs, e1, e2, e3, e4⟩
    have key := hte i H1 (fun y H4 => ∃ acc, H4 D = some (.lst acc) ∧ acc.length < sizeLine ∧
      ((∀ b o, b ≠ pd → b ≠ pl → H b = some o → (upd H4 D (.lst (acc ++ [y]))) b = some o) ∧ Live (D :: N) (upd H4 D (.lst (acc ++ [y]))) ∧ St K (D :: N) (upd H4 D (.lst (acc ++ [y]))) pd pl (m + q * (i + 1)) ∧ ∃ (xs : List V) (qs : List PyData), (upd H4 D (.lst (acc ++ [y]))) D = some (.lst xs) ∧ DpAll K (cut (D :: N) (upd H4 D (.lst (acc ++ [y])))) xs qs ∧ qs.length = i + 1 ∧ ∀ d ∈ qs, EE d)) hi l1 S1 (fun v d H' c2 S2 hv hq => by
        have el : xs.length = qs.length := e2.length
        refine ⟨xs, c2 D _ nd1 nd2 e1, small1000 (by omega), fun b o h1 h2 e => ?_, (S2.live c2 l1).setD _, (S2.setD nd1 nd2 _).more (by rw [Nat.mul_add, Nat.mul_one]; omega), xs ++ [v], qs ++ [d], upd_same, ?_, by rw [List.length_append, e3]; rfl, fun r hr => ?_⟩
        · rw [upd_ne (ne_of_none e hD)]
          exact c2 b o h1 h2 (c b o h1 h2 e)
        · rw [cut_upd List.mem_cons_self]
          exact DpAll.append (e2.ext (c2.cut S1.md S1.ml)) (.cons hv .nil)
        · rcases List.mem_append.mp hr with z | z
          · exact e4 r z
          · rw [List.mem_singleton.mp z]; exact hq)
    exact key
  · rintro H1 ⟨c, l1, S1, xs, qs, e1, e2, e3, e4⟩
    exact hd xs qs H1 c (fun a ha => l1 a (List.mem_cons_of_mem _ ha)) (S1.pop S.md S.ml) e1 (e2.ext (cut_sub D)) e3 e4
theorem row_ok {ds : List PyData} (h1 : 1 ≤ ds.length) (h8 : ds.length ≤ 8) (h : ∀ d ∈ ds, isStep d = true) : rowOut (.tuple ds) = .ok (.tuple ds) := by
  have e : ds.findIdx? (fun e => !isStep e) = none := by
    rw [List.findIdx?_eq_none_iff]
    intro d hd
    rw [h d hd]
    rfl
  show (if 1 ≤ ds.length ∧ ds.length ≤ 8 then (match ds.findIdx? fun e => !isStep e with | none => Out.ok (.tuple ds) | some i => .er .row (.tuple [.int (i : Nat)])) else .er .row (.tuple [])) = _
  rw [if_pos ⟨h1, h8⟩, e]
/-! ### _law_right -/
end
section
variable {K : PySem.W.Frag}
theorem new_tup {N : List Addr} {H : Hp} {q : Addr} {xs : List V} {ds : List PyData} (l : Live N H) (n : H q = none) (d : DpAll K (cut N H) xs ds) : Dp K (cut N (upd H q (.tup xs))) (.ref q) (.tuple ds) :=
  .tup (.inl (.inl (cut_at (l.new n) upd_same))) (d.ext (Same.cut N (same_new n)))
theorem new_lst {N : List Addr} {H : Hp} {q : Addr} {xs : List V} {ds : List PyData} (l : Live N H) (n : H q = none) (d : DpAll K (cut N H) xs ds) : Dp K (cut N (upd H q (.lst xs))) (.ref q) (.list ds) :=
  .lst (.inl (.inl (cut_at (l.new n) upd_same))) (d.ext (Same.cut N (same_new n)))
theorem new_num {N : List Addr} {H : Hp} {q : Addr} {a b : Int} (l : Live N H) (n : H q = none) : Dp K (cut N (upd H q (.tup [.int a, .int b]))) (.ref q) (nD (a, b)) := new_tup l n dp_two
/-- a display of data from the heap h on -/
theorem dp_ex {N : List Addr} {H H' : Hp} {v : V} {d : PyData} (h : Dp K (cut N H) v d) (s : Same H H') : Dp K (cut N H') v d := h.ext (Same.cut N s)
/-! ### calls by names -/
def okSh (n k : Nat) (d : PyData) : Bool := d.showable && (!d.hasDict && (decide (d.depth ≤ k) && decide (d.shown.length ≤ n)))
theorem sh_of {n k : Nat} {d : PyData} (h : okSh n k d = true) : Sh n k d := by
  unfold okSh at h
  simp only [Bool.and_eq_true, decide_eq_true_eq, Bool.not_eq_true'] at h
  exact ⟨h.1, h.2.1, h.2.2.1, h.2.2.2⟩
end
/-! ### calls within a lambda -/
section
variable {X : Cx}
theorem passLam {A : Around} {outer : List Env} {s : Shared} {H : Hp} {E : XK} {scope : Scope} {f c' : Addr} : Passes (L2.CX X.prog X.w) (lamCx X A outer s H E scope f c') E :=
  passes_call (takes_of rfl rfl rfl rfl) (fun _ _ _ _ h => h)
theorem passLam2 {A : Around} {outer : List Env} {s : Shared} {H : Hp} {E : XK} {scope : Scope} {f c' : Addr} : Passes (L2.CX (lamCx X A outer s H E scope f c').prog (lamCx X A outer s H E scope f c').w) (lamCx X A outer s H E scope f c') E := @passLam X A outer s H E scope f c'
def Heldx (P : Program) (w : World) (K : PySem.W.Frag) (mg : Str → Option Value) (base : Heap) (k : Nat) (f : Addr) (sp : Sp) : Prop :=
  ∃ (fd : FuncData) (ps : List Str) (j : Nat), FnOk P w K mg base (L2.CX P w) j f fd ps sp ∧ j ≤ k ∧ PySem.W.keepIn K (.ref f) = true ∧ Binds K fd ps []
def tCallS (i : Nat) (S : Addr → Sp → Prop) (E : XK) (t : TA) : TE := fun σ H Q => ∃ (f : Addr) (sp : Sp), σ[i]? = some (some (.ref f)) ∧ S f sp ∧ t σ H fun vs H1 => sp vs H1 Q E
theorem pe_callS {S : Addr → Sp → Prop} {k i : Nat} {E : XK} {x : Str} {p pos : Pos} {e : Expr} {es : List Expr} {t : TA} (B : ∀ f sp, S f sp → Heldx X.prog X.w X.K X.mg X.base k f sp) (hr : Room k X.A) (hN : X.N[i]? = some x) (hv : Vis X.env.scope x) (hx : Passes (L2.CX X.prog X.w) X E) (ha : PA X (e :: es) t)
    (hdb : (x == ("__debug__" : Str)) = false := by decide) (hcd : (x == ("__classdict__" : Str)) = false := by decide)
    (he : starEach (e :: es) X.env = (false, eval e X.env) :: starEach es X.env := by rfl) (hpl : (backTo pos (starEach es X.env)).any (·.1) = false := by rfl) : PE X (.Call (.Name x p) (e :: es) [] pos) (tCallS i S E t) := by
  refine ⟨fun pins s σ H Q I h => ?_⟩
  obtain ⟨f, sp, hs, hS, ht⟩ := h
  obtain ⟨fd, ps, j, F, hj, hk, hb⟩ := B f sp hS
  refine (pe_callL (i := i) (f := f) (sp := sp) (dvs := []) (E := E) F (hr.mono hj) hN hv hk hb .nil hx ha hdb hcd he hpl).run pins s σ H Q I ⟨hs, ?_⟩
  have e0 : (fun (vs : List V) (H1 : Hp) => sp (vs ++ []) H1 Q E) = fun vs H1 => sp vs H1 Q E := by
    funext vs H1
    rw [List.append_nil]
  show t σ H (fun vs H1 => sp (vs ++ []) H1 Q E)
  rw [e0]
  exact ht
end
/-! ### data, all but the tables kept -/
theorem ExtN.of_cut {N : List Addr} {H H' : Hp} (e : ExtN H H') : ExtN (cut N H) (cut N H') := fun a o h n => by
  by_cases z : a ∈ N
  · rw [cut_in z] at h; cases h
  · rw [cut_out z] at h ⊢
    exact e a o h n
theorem lst_extN {K : PySem.W.Frag} {H H' : Hp} {a : Addr} {xs : List V} (e : ExtN H H') (h : SqL K H a xs) : SqL K H' a xs := by
  rcases h with (h | ⟨o, h⟩) | h
  · exact .inl (.inl (e _ _ h (fun ps z => by cases z)))
  · exact .inl (.inr ⟨o, e _ _ h (fun ps z => by cases z)⟩)
  · exact .inr h
theorem tup_extN {K : PySem.W.Frag} {H H' : Hp} {a : Addr} {xs : List V} (e : ExtN H H') (h : SqT K H a xs) : SqT K H' a xs := by
  rcases h with (h | ⟨o, h⟩) | h
  · exact .inl (.inl (e _ _ h (fun ps z => by cases z)))
  · exact .inl (.inr ⟨o, e _ _ h (fun ps z => by cases z)⟩)
  · exact .inr h
mutual
theorem dp_extN {K : PySem.W.Frag} {H H' : Hp} (e : ExtN H H') : ∀ (d : PyData) (v : V), Dp K H v d → Dp K H' v d
  | .none, _, h => by cases h; exact .non
  | .bool b, _, h => by cases h; exact .bl b
  | .int b, _, h => by cases h; exact .int b
  | .str b, _, h => by cases h; exact .str b
  | .list ds, _, h => by
    obtain ⟨a, xs, rfl, h1, h2⟩ := Dp.lstI h
    exact .lst (lst_extN e h1) (dpAll_extN e ds _ h2)
  | .tuple ds, _, h => by
    obtain ⟨a, xs, rfl, h1, h2⟩ := Dp.tupI h
    exact .tup (tup_extN e h1) (dpAll_extN e ds _ h2)
  | .dict _, _, h => by cases h
theorem dpAll_extN {K : PySem.W.Frag} {H H' : Hp} (e : ExtN H H') : ∀ (ds : List PyData) (vs : List V), DpAll K H vs ds → DpAll K H' vs ds
  | [], _, h => by cases h; exact .nil
  | d :: ds, _, h => by
    cases h with
    | cons a b => exact .cons (dp_extN e d _ a) (dpAll_extN e ds _ b)
end
/-- a lambda's parameters: none -/
abbrev noArgs : Arguments := { posonlyargs := [], args := [], vararg := none, kwonlyargs := [], kw_defaults := [], kwarg := none, defaults := [] }
def T0 (nm : Str) (PP : Addr) : List (Addr × Str) := [(PP, (nm ++ Str.ofString ".<locals>.") ++ Str.ofString "<lambda>")]
/-- the state and the table of code -/
structure Wd (K : PySem.W.Frag) (nm : Str) (pd pl PP : Addr) (H : Hp) (m : Nat) : Prop where
  st : St K [pd, pl, PP] H pd pl m
  tb : Tabs (T0 nm PP) H
theorem Wd.live {K : PySem.W.Frag} {nm : Str} {pd pl PP : Addr} {H : Hp} {m : Nat} (W : Wd K nm pd pl PP H m) : Live [pd, pl, PP] H := fun a ha => by
  obtain ⟨pc, cells, lefts, n, e1, e2, _⟩ := W.st.ex
  obtain ⟨ps, e3, _⟩ := W.tb _ List.mem_cons_self
  simp only [List.mem_cons, List.not_mem_nil, or_false] at ha
  rcases ha with z | z | z
  · rw [z, e1]; simp
  · rw [z, e2]; simp
  · rw [z]
    have e3 : H PP = some (.tbl ps) := e3
    rw [e3]; simp
theorem Wd.extN {K : PySem.W.Frag} {nm : Str} {pd pl PP : Addr} {H H' : Hp} {m : Nat} (W : Wd K nm pd pl PP H m) (e : ExtN H H') (t : Tabs (T0 nm PP) H') : Wd K nm pd pl PP H' m := by
  obtain ⟨pc, cells, lefts, n, e1, e2, e3, e4⟩ := W.st.ex
  exact ⟨⟨W.st.md, W.st.ml, pc, cells, lefts, n, e _ _ e1 (fun ps z => by cases z), e _ _ e2 (fun ps z => by cases z), lst_extN (ExtN.of_cut e) e3, e4⟩, t⟩
theorem Wd.same {K : PySem.W.Frag} {nm : Str} {pd pl PP : Addr} {H H' : Hp} {m : Nat} (W : Wd K nm pd pl PP H m) (s : Same H H') : Wd K nm pd pl PP H' m := ⟨W.st.same s, W.tb.ext s⟩
theorem Wd.chg {K : PySem.W.Frag} {nm : Str} {pd pl PP : Addr} {H H' : Hp} {m m' : Nat} (W : Wd K nm pd pl PP H m) (c : Chg pd pl H H') (S : St K [pd, pl, PP] H' pd pl m') : Wd K nm pd pl PP H' m' := by
  obtain ⟨pc, cells, lefts, n, e1, e2, _⟩ := W.st.ex
  refine ⟨S, fun p hp => ?_⟩
  obtain ⟨ps, h1, h2, h3⟩ := W.tb p hp
  refine ⟨ps, c _ _ (ne_of h1 e1 (by intro z; cases z)) (ne_of h1 e2 (by intro z; cases z)) h1, h2, fun pos cv hc => ?_⟩
  obtain ⟨a, rfl, ha⟩ := h3 pos cv hc
  exact ⟨a, rfl, c _ _ (ne_of ha e1 (by intro z; cases z)) (ne_of ha e2 (by intro z; cases z)) ha⟩
theorem Wd.more {K : PySem.W.Frag} {nm : Str} {pd pl PP : Addr} {H : Hp} {m m' : Nat} (W : Wd K nm pd pl PP H m) (h : m ≤ m') : Wd K nm pd pl PP H m' := ⟨W.st.more h, W.tb⟩
section
variable {P : Program} {w : World} {K : PySem.W.Frag} {mg : Str → Option Value} {base : Heap} {t1 t2 t3 : Tok} {f : Addr} {fd : FuncData} {ad : Ads} {gr c PP : Addr} {fdr : FuncData}
theorem repA_any {N : List Addr} {H : Hp} {s1 : Addr} {x : V} {k : Int} {Q : VK} (l : Live N H) (hS : SqT K (cut N H) s1 [x]) (h0 : 0 ≤ k) (h1 : k ≤ 1000)
    (q : ∀ (p : Addr) (H' : Hp), Same H H' → SqT K (cut N H') p (List.replicate k.toNat x) → Q (.ref p) H') : rRepA K (.ref s1) (.int k) H Q := by
  refine ⟨s1, k, [x], rfl, rfl, seq_un hS, by simp, h0, h1, by show 1 ≤ 1000; decide, fun e => ?_, fun e p np => ?_⟩
  · refine q s1 H (Same.refl H) ?_
    rw [e]
    exact hS
  · refine q p _ (same_new np) (.inl (.inl (cut_at (l.new np) ?_)))
    rw [upd_same, flat_one]
theorem repA_c {N : List Addr} {H : Hp} {s1 : Addr} {x : V} {k : Int} {Q : VK} {σ : L2.St} (l : Live N H) (hS : SqT K (cut N H) s1 [x]) (h0 : 0 ≤ k) (h1 : k ≤ 1000)
    (q : ∀ (p : Addr) (H' : Hp), Same H H' → SqT K (cut N H') p (List.replicate k.toNat x) → Q (.ref p) H') : tC (V.int k) σ H fun y H2 => rRepA K (.ref s1) y H2 Q := repA_any l hS h0 h1 q
theorem catA_any {N : List Addr} {H : Hp} {a b : Addr} {xs ys : List V} {Q : VK} (l : Live N H) (ha : SqT K (cut N H) a xs) (hb : SqT K (cut N H) b ys) (hz : xs.length + ys.length ≤ 1000)
    (q : ∀ (p : Addr) (H' : Hp), Same H H' → SqT K (cut N H') p (xs ++ ys) → Q (.ref p) H') : rCatA K (.ref a) (.ref b) H Q := by
  refine ⟨a, b, xs, ys, rfl, rfl, seq_un ha, seq_un hb, by rw [sizeLine_eq]; omega, fun e => ?_, fun _ e => ?_, fun _ _ p np => ?_⟩
  · refine q b H (Same.refl H) ?_
    rw [e, List.nil_append]
    exact hb
  · refine q a H (Same.refl H) ?_
    rw [e, List.append_nil]
    exact ha
  · exact q p _ (same_new np) (.inl (.inl (cut_at (l.new np) upd_same)))
theorem dp_mem {H : Hp} : ∀ {xs : List V} {ds : List PyData} {v : V}, DpAll K H xs ds → v ∈ xs → ∃ d, d ∈ ds ∧ Dp K H v d
  | _, [], v, h, hv => by cases h; cases hv
  | _, d :: ds, v, h, hv => by
    cases h with
    | cons a b =>
      rcases List.mem_cons.mp hv with z | z
      · exact ⟨d, List.mem_cons_self, by rw [z]; exact a⟩
      · obtain ⟨e, h1, h2⟩ := dp_mem b z
        exact ⟨e, List.mem_cons_of_mem _ h1, h2⟩
end
end My

set_option Elab.async false
set_option linter.all false
set_option maxRecDepth 100000
set_option maxHeartbeats 4000000
set_option exponentiation.threshold 20000
namespace My
open PySem PySem.Spec PyProof.Rows L2
section
variable {P : Program} {w : World} {K : PySem.W.Frag} {mg : Str → Option Value} {base : Heap} {t1 t2 t3 : Tok} {f : Addr} {fd : FuncData} {ad : Ads}
/-! ### needless noughts -/
theorem eqvn (p q : Int × Int) : PyData.eqv (nD p) (nD q) = decide (p = q) := by
  have e : PyData.eqv (nD p) (nD q) = (p.1 == q.1 && p.2 == q.2) := by simp [nD, PyData.eqv, PyData.eqvAll]
  rw [e, Bool.eq_iff_iff]
  simp [Prod.ext_iff]
theorem shapedN (q : Int × Int) : SeqAt.shaped (nD q) = true := rfl
def sp_law_trim (K : PySem.W.Frag) : Sp := fun vs H Q _ => ∃ (N : List Addr) (a : Addr) (xs : List V) (s : List (Int × Int)), vs = [.ref a] ∧ Live N H ∧ (SqL K (cut N H) a xs ∨ SqT K (cut N H) a xs) ∧ DpAll K (cut N H) xs (s.map nD) ∧ Told K N H (sD (trimQ s)) Q
end
end My

set_option Elab.async false
set_option linter.all false
set_option maxRecDepth 100000
set_option maxHeartbeats 4000000
set_option exponentiation.threshold 20000
namespace My
open PySem PySem.Spec PyProof.Rows L2
variable {P : Program} {w : World} {K : PySem.W.Frag} {mg : Str → Option Value} {base : Heap} {t1 t2 t3 : Tok} {f : Addr} {fd : FuncData} {ad : Ads}
section
variable {P : Program} {w : World} {K : PySem.W.Frag} {mg : Str → Option Value} {base : Heap} {t1 t2 t3 : Tok} {f : Addr} {fd : FuncData} {ad : Ads}
/-! ### sums of steps -/
theorem bd_nought {c : Nat} (h : 1 ≤ c) : Bd c (0, 1) := Bd.mono (m := 1) ⟨by decide, by decide, by decide⟩ h
def sp_law_sum (K : PySem.W.Frag) : Sp := fun vs H Q _ => ∃ (N : List Addr) (v u : V) (s t : List (Int × Int)) (c d : Nat), vs = [v, u] ∧ Live N H ∧ Dp K (cut N H) v (sD s) ∧ Dp K (cut N H) u (sD t) ∧ (∀ q ∈ s, Bd c q) ∧ (∀ q ∈ t, Bd d q) ∧ 1 ≤ c ∧ 1 ≤ d ∧ c + d ≤ 8000 ∧
  s.length ≤ 1000 ∧ t.length ≤ 1000 ∧ Told K N H (sD (trimQ (sumQ s t))) Q
end
end My

set_option Elab.async false
set_option linter.all false
set_option maxRecDepth 100000
set_option maxHeartbeats 4000000
set_option exponentiation.threshold 20000
namespace My
open PySem PySem.Spec PyProof.Rows L2
section
variable {P : Program} {w : World} {K : PySem.W.Frag} {mg : Str → Option Value} {base : Heap} {t1 t2 t3 : Tok} {f : Addr} {fd : FuncData} {ad : Ads}
/-! ### products of steps -/
theorem dpAll_set {K : PySem.W.Frag} {H : Hp} {v : V} {d : PyData} (h : Dp K H v d) : ∀ (i : Nat) {xs : List V} {ds : List PyData}, DpAll K H xs ds → DpAll K H (xs.set i v) (ds.set i d)
  | i, [], ds, a => by cases ds with | nil => exact .nil | cons x y => exact absurd (DpAll.length a) (by simp)
  | 0, x :: xs, ds, a => by
    cases ds with
    | nil => exact absurd (DpAll.length a) (by simp)
    | cons d' ds => cases a with | cons p q => exact .cons h q
  | i + 1, x :: xs, ds, a => by
    cases ds with
    | nil => exact absurd (DpAll.length a) (by simp)
    | cons d' ds => cases a with | cons p q => exact .cons p (dpAll_set h i q)
theorem bd_fr {b : Nat} {a D : Int} (h : 0 < D) (h1 : a.natAbs ≤ 2 ^ b) (h2 : D.natAbs ≤ 2 ^ b) : Bd (b + 1) (fr a D) :=
  fr_bd h (Nat.lt_of_le_of_lt h1 (Nat.pow_lt_pow_right (by decide) (by omega))) (Nat.lt_of_le_of_lt h2 (Nat.pow_lt_pow_right (by decide) (by omega)))
theorem ov_bd {b : Nat} {D : Int} {ns : List Int} (h : 0 < D) (h1 : nrm ns ≤ 2 ^ b) (h2 : D.natAbs ≤ 2 ^ b) : ∀ q ∈ ov D ns, Bd (b + 1) q := fun q hq => by
  obtain ⟨n, hn, rfl⟩ := List.mem_map.mp hq
  exact bd_fr h (Nat.le_trans (nrm_mem hn) h1) h2
/-- two steps over one number each, all that is made of them within b bits -/
structure PF (D E : Int) (F I : List Int) (b : Nat) : Prop where
  d0 : 0 < D
  e0 : 0 < E
  f : nrm F ≤ 2 ^ b
  i : nrm I ≤ 2 ^ b
  fi : nrm F * nrm I ≤ 2 ^ b
  d : D.natAbs ≤ 2 ^ b
  e : E.natAbs ≤ 2 ^ b
  de : (D * E).natAbs ≤ 2 ^ b
theorem row_bd {D E : Int} {F I : List Int} {b : Nat} (h : PF D E F I b) {i j : Nat} (hi : i < F.length) (hj : j ≤ I.length) : ∀ z ∈ rowQ i ((ov D F).getD i (0, 1)) (ov E I) (prodQ (ov D F) (ov E I) i) j, Bd (b + 1) z := by
  rw [prodQ_ov h.d0 h.e0, ov_getD h.d0, rowQ_ov h.d0 h.e0]
  exact ov_bd (Int.mul_pos h.d0 h.e0) (Nat.le_trans (nrm_rowI_le F I hi hj) h.fi) h.de
def sp_law_product (K : PySem.W.Frag) : Sp := fun vs H Q _ => ∃ (N : List Addr) (v u : V) (F I : List Int) (D E : Int) (b : Nat), vs = [v, u] ∧ Live N H ∧ Dp K (cut N H) v (sD (ov D F)) ∧ Dp K (cut N H) u (sD (ov E I)) ∧ PF D E F I b ∧ b ≤ 2600 ∧
  1 ≤ F.length ∧ 1 ≤ I.length ∧ F.length ≤ 300 ∧ I.length ≤ 300 ∧ Told K N H (sD (trimQ (prodQ (ov D F) (ov E I) F.length))) Q
end
end My

set_option Elab.async false
set_option linter.all false
set_option maxRecDepth 100000
set_option maxHeartbeats 4000000
set_option exponentiation.threshold 20000
namespace My
open PySem PySem.Spec PyProof.Rows L2
section
variable {P : Program} {w : World} {K : PySem.W.Frag} {mg : Str → Option Value} {base : Heap} {t1 t2 t3 : Tok} {f : Addr} {fd : FuncData} {ad : Ads}
/-! ### closed -/
def keptI (s : List Int) : Nat → Nat
  | 0 => 0
  | j + 1 => if s[j]? = some 0 then keptI s j else j + 1
theorem keptI_le (s : List Int) : ∀ j, keptI s j ≤ j
  | 0 => Nat.le_refl 0
  | j + 1 => by
    show (if s[j]? = some 0 then keptI s j else j + 1) ≤ j + 1
    split
    · exact Nat.le_trans (keptI_le s j) (Nat.le_succ j)
    · exact Nat.le_refl _
theorem keptI_all {s : List Int} {k : Nat} (h : s.length = k + 1) (hz : s.getD k 0 ≠ 0) : s.take (keptI s s.length) = s := by
  rw [h]
  have : keptI s (k + 1) = k + 1 := by
    show (if s[k]? = some 0 then keptI s k else k + 1) = k + 1
    rw [if_neg]
    intro z
    exact hz (by rw [List.getD_eq_getElem?_getD, z]; rfl)
  rw [this, ← h, List.take_length]
theorem cut_to {xs : List V} {j : Nat} (h : j ≤ xs.length) : cutV xs none (some (j : Int)) = xs.take j := by
  unfold cutV
  have e0 : HT.sIx xs.length 0 none = 0 := rfl
  have e1 : HT.sIx xs.length xs.length (some (j : Int)) = j := by
    unfold HT.sIx
    simp only
    rw [if_neg (by omega)]
    omega
  rw [e0, e1, List.drop_zero]
  rfl
def sp_closed (K : PySem.W.Frag) : Sp := fun vs H Q _ => ∃ (N : List Addr) (p : Addr) (ns : List Int) (D : Int), vs = [.ref p, .int D] ∧ Live N H ∧ SqL K H p (ns.map V.int) ∧ 0 < D ∧ D.natAbs.log2 < 9000 ∧ ns.length ≤ 1000 ∧ Told K N H (sD (ov D (ns.take (keptI ns ns.length)))) Q
/-! ### products of lists of integers -/
def sp_multiplied (K : PySem.W.Frag) : Sp := fun vs H Q _ => ∃ (a b : Addr) (s t : List Int) (c d : Nat), vs = [.ref a, .ref b] ∧ SqL K H a (s.map V.int) ∧ SqL K H b (t.map V.int) ∧ nrm s ≤ 2 ^ c ∧ nrm t ≤ 2 ^ d ∧ c + d ≤ 800000 ∧ 1 ≤ s.length ∧ 1 ≤ t.length ∧ s.length + t.length ≤ 1000 ∧
  ∀ (p : Addr) (H' : Hp), Same H H' → H p = none → H' p = some (.lst ((mulI s t s.length).map V.int)) → Q (.ref p) H'
theorem map_rep (n : Nat) : (List.replicate n [V.int 0]).flatten = (List.replicate n (0 : Int)).map V.int := by
  rw [flat_one, List.map_replicate]
end
end My

set_option Elab.async false
set_option linter.all false
set_option maxRecDepth 100000
set_option maxHeartbeats 4000000
set_option exponentiation.threshold 20000
namespace My
open PySem PySem.Spec PyProof.Rows L2
section
variable {P : Program} {w : World} {K : PySem.W.Frag} {mg : Str → Option Value} {base : Heap} {t1 t2 t3 : Tok} {f : Addr} {fd : FuncData} {ad : Ads}
/-! ### one step put into another one -/
/-- what putting in asks of the numbers' sizes -/
structure PutOk (s t : List (Int × Int)) : Prop where
  ss : Stp s
  st : Stp t
  ex : ∃ m d c e : Nat, Bits m d s ∧ d ≤ m ∧ Bits c e t ∧ m + d + 2 + (d + 1) * s.length ≤ 7000 ∧ c + e + 2 + (e + 1) * t.length ≤ 7000 ∧ c + (m + 1) * t.length ≤ 300000 ∧ e + d * t.length + 2 ≤ 8900
  len : (s.length - 1) * (t.length - 1) + 1 + s.length + t.length ≤ 900
theorem fit_of {m d : Nat} {s : List (Int × Int)} (hs : ∀ q ∈ s, 0 < q.2) (h : Bits m d s) : Fit (m + 1) (d + 1) s :=
  ⟨hs, fun q hq => Nat.lt_of_le_of_lt (bits_num hs h hq).1 (Nat.pow_lt_pow_right (by decide) (by omega)), fun q hq => Nat.lt_of_le_of_lt (bits_num hs h hq).2 (Nat.pow_lt_pow_right (by decide) (by omega))⟩
def sp_put_in (K : PySem.W.Frag) : Sp := fun vs H Q _ => ∃ (N : List Addr) (v u : V) (s t : List (Int × Int)), vs = [v, u] ∧ Live N H ∧ Dp K (cut N H) v (sD s) ∧ Dp K (cut N H) u (sD t) ∧ PutOk s t ∧ Told K N H (sD (compQ s t)) Q
theorem atI_neg {xs : List V} {y : V} (h : xs.getLast? = some y) : atI xs (-1) = some y := by
  have hne : xs ≠ [] := by intro z; rw [z] at h; cases h
  rw [List.getLast?_eq_some_getLast hne] at h
  rw [← List.dropLast_concat_getLast hne, Option.some.inj h]
  exact atI_last _ _
theorem cut_last (xs : List V) : cutV xs none (some (-1)) = xs.dropLast := by
  unfold cutV
  have e0 : HT.sIx xs.length 0 none = 0 := rfl
  have e1 : HT.sIx xs.length xs.length (some (-1)) = xs.length - 1 := by
    unfold HT.sIx
    simp
    omega
  rw [e0, e1, List.drop_zero, List.dropLast_eq_take]
  rfl
end
end My

set_option Elab.async false
set_option linter.all false
set_option maxRecDepth 100000
set_option maxHeartbeats 4000000
set_option exponentiation.threshold 20000
namespace My
open PySem PySem.Spec PyProof.Rows L2
def rowD (rs : List (List (Int × Int))) : PyData := .tuple (rs.map sD)
theorem degs_take (rs : List (List (Int × Int))) (i : Nat) {s : List (Int × Int)} (h : rs[i]? = some s) : degs (rs.take (i + 1)) = degs (rs.take i) * (s.length - 1) := by
  rw [take_more h]
  unfold degs
  rw [List.foldl_append]
  rfl
theorem degs_le {rs : List (List (Int × Int))} (h : ∀ s ∈ rs, s.length ≤ 65) : ∀ i, i ≤ rs.length → degs (rs.take i) ≤ 2 ^ (6 * i)
  | 0, _ => Nat.le_refl 1
  | i + 1, hi => by
    have hlt : i < rs.length := by omega
    rw [degs_take rs i (List.getElem?_eq_getElem hlt), Nat.mul_add, Nat.mul_one, Nat.pow_add]
    have := h _ (List.getElem_mem hlt)
    exact Nat.mul_le_mul (degs_le h i (by omega)) (show rs[i].length - 1 ≤ 64 by omega)
theorem compRow_more {rs : List (List (Int × Int))} {i : Nat} {s : List (Int × Int)} (h : rs[i + 1]? = some s) : compRow (rs.take (i + 2)) = compQ (compRow (rs.take (i + 1))) s := by
  rw [take_more h]
  cases rs with
  | nil => cases h
  | cons r rs =>
    show ((rs.take i ++ [s])).foldl compQ r = _
    rw [List.foldl_append]
    rfl
def RowOk (rs : List (List (Int × Int))) : Prop := ∀ i s, rs[i + 1]? = some s → PutOk (compRow (rs.take (i + 1))) s
def alongL (rs : List (List (Int × Int))) (x : Int × Int) : List (Int × Int) := (List.range rs.length).map fun i => alongV (rs.take (i + 1)) x
theorem alongV_more {rs : List (List (Int × Int))} {i : Nat} {s : List (Int × Int)} (x : Int × Int) (h : rs[i]? = some s) : alongV (rs.take (i + 1)) x = lawV s (alongV (rs.take i) x) := by
  rw [take_more h]
  unfold alongV
  rw [List.foldl_append]
  rfl
def ValOk (rs : List (List (Int × Int))) (x : Int × Int) : Prop := ∀ i s, rs[i]? = some s → ∃ tb pb nb : Nat, Fit tb pb s ∧ s ≠ [] ∧ 0 < (alongV (rs.take i) x).2 ∧ (alongV (rs.take i) x).1.natAbs < 2 ^ nb ∧ (alongV (rs.take i) x).2.natAbs < 2 ^ nb ∧
  pb * s.length + pb + tb + (nb + 1) * s.length ≤ 8000 ∧ s.length ≤ 1000
section
variable {P : Program} {w : World} {K : PySem.W.Frag} {mg : Str → Option Value} {base : Heap} {t1 t2 t3 : Tok} {f : Addr} {fd : FuncData} {ad : Ads}
/-! ### degrees of rows -/
theorem row_at {H : Hp} {xs : List V} {rs : List (List (Int × Int))} {i : Nat} {x : V} (d : DpAll K H xs (rs.map sD)) (h : xs[i]? = some x) : ∃ s, rs[i]? = some s ∧ Dp K H x (sD s) := by
  obtain ⟨e, h1, h2⟩ := d.get' h
  rw [List.getElem?_map] at h1
  cases e2 : rs[i]? with
  | none => rw [e2] at h1; cases h1
  | some s =>
    rw [e2] at h1
    cases h1
    exact ⟨s, rfl, h2⟩
def sp_product_of_degrees (K : PySem.W.Frag) : Sp := fun vs H Q _ => ∃ (v : V) (rs : List (List (Int × Int))), vs = [v] ∧ Dp K H v (rowD rs) ∧ (∀ s ∈ rs, 1 ≤ s.length ∧ s.length ≤ 65) ∧ rs.length ≤ 100 ∧ Q (.int (degs rs : Nat)) H
def sp_refuse_great (ad : Ads) (K : PySem.W.Frag) : Sp := fun vs H Q E => ∃ (N : List Addr) (v : V) (rs : List (List (Int × Int))), vs = [v] ∧ Live N H ∧ Dp K (cut N H) v (rowD rs) ∧ (∀ s ∈ rs, 1 ≤ s.length ∧ s.length ≤ 65) ∧ rs.length ≤ 100 ∧
  (256 < degs rs → ToldX K ad N H (.er .grt (.int 256)) Q E) ∧ (degs rs ≤ 256 → Q .non H)
/-! ### wholes -/
theorem step_of_isStep {d : PyData} (h : isStep d = true) : ∃ s : List (Int × Int), d = sD s ∧ 2 ≤ s.length ∧ s.length ≤ 65 ∧ (∀ q ∈ s, Low q) ∧ Fit 200 200 s := by
  obtain ⟨ds, rfl, h2, h3, h4⟩ := isStep_shape h
  obtain ⟨s, e, fit⟩ := nums_of h4
  have hl : ds.length = s.length := by rw [e, List.length_map]
  refine ⟨s, by rw [e]; rfl, by omega, by omega, fun q hq => ?_, fit⟩
  have : nD q ∈ ds := by rw [e]; exact List.mem_map.mpr ⟨q, hq, rfl⟩
  obtain ⟨q', e', _, _, _, hlow⟩ := num_of (List.all_eq_true.mp h4 _ this)
  rw [nD_inj e']
  exact hlow
theorem rows_of : ∀ {ds : List PyData}, (∀ d ∈ ds, isStep d = true) → ∃ rs : List (List (Int × Int)), ds = rs.map sD ∧ ∀ s ∈ rs, 2 ≤ s.length ∧ s.length ≤ 65
  | [], _ => ⟨[], rfl, fun _ h => (by cases h)⟩
  | d :: ds, h => by
    obtain ⟨s, e, h1, h2, _⟩ := step_of_isStep (h d List.mem_cons_self)
    obtain ⟨rs, e2, h3⟩ := rows_of fun x hx => h x (List.mem_cons_of_mem _ hx)
    refine ⟨s :: rs, by rw [e, e2]; rfl, fun z hz => ?_⟩
    rcases List.mem_cons.mp hz with y | y
    · rw [y]; exact ⟨h1, h2⟩
    · exact h3 z y
theorem rowOut_ok {d : PyData} {o : PyData} (h : rowOut d = .ok o) : o = d ∧ ∃ ds, d = .tuple ds ∧ 1 ≤ ds.length ∧ ds.length ≤ 8 ∧ ∀ e ∈ ds, isStep e = true := by
  unfold rowOut at h
  split at h
  · rename_i ds
    split at h
    · rename_i hl
      split at h
      · rename_i hf
        cases h
        refine ⟨rfl, ds, rfl, hl.1, hl.2, fun e he => ?_⟩
        have := List.findIdx?_eq_none_iff.mp hf e he
        simpa using this
      · cases h
    · cases h
  · cases h
theorem rowOut_row {rs : List (List (Int × Int))} (h1 : 1 ≤ rs.length) (h2 : rs.length ≤ 8) (h : ∀ s ∈ rs, isStep (sD s) = true) : rowOut (rowD rs) = .ok (rowD rs) := by
  have hf : (rs.map sD).findIdx? (fun e => !isStep e) = none := by
    rw [List.findIdx?_eq_none_iff]
    intro e he
    obtain ⟨s, hs, rfl⟩ := List.mem_map.mp he
    rw [h s hs]
    rfl
  unfold rowD rowOut
  simp only
  rw [if_pos ⟨by rw [List.length_map]; exact h1, by rw [List.length_map]; exact h2⟩, hf]
/-- a row that is let, told by its steps -/
structure GoodRow (rs : List (List (Int × Int))) : Prop where
  one : 1 ≤ rs.length
  most : rs.length ≤ 8
  step : ∀ s ∈ rs, isStep (sD s) = true
theorem isStep_len {s : List (Int × Int)} (h : isStep (sD s) = true) : 2 ≤ s.length ∧ s.length ≤ 65 := by
  obtain ⟨ds, e, h2, h3, _⟩ := isStep_shape h
  have e' : s.map nD = ds := by
    unfold sD at e
    injection e
  rw [← e', List.length_map] at h2 h3
  exact ⟨h2, h3⟩
theorem GoodRow.lens {rs : List (List (Int × Int))} (h : GoodRow rs) : ∀ s ∈ rs, 1 ≤ s.length ∧ s.length ≤ 65 := fun s hs => by
  have := isStep_len (h.step s hs)
  omega
def sp_row_degree (ad : Ads) (K : PySem.W.Frag) : Sp := fun vs H Q E => ∃ (N : List Addr) (v : V) (d : PyData), vs = [v] ∧ Live N H ∧ Dp K (cut N H) v d ∧
  ((∃ e, rowOut d = .er .row e ∧ ToldX K ad N H (.er .row e) Q E) ∨ ∃ rs, d = rowD rs ∧ GoodRow rs ∧ Told K N H (.int (degs rs : Nat)) Q)
theorem sIx_one {n : Nat} (h : 1 ≤ n) : HT.sIx n 0 (some 1) = 1 := by
  unfold HT.sIx
  simp only
  rw [if_neg (by decide)]
  show min 1 n = 1
  omega
theorem cut_from {xs : List V} (h : 1 ≤ xs.length) : cutV xs (some 1) none = xs.drop 1 := by
  unfold cutV
  have e1 : HT.sIx xs.length xs.length none = xs.length := rfl
  rw [sIx_one h, e1]
  exact List.take_of_length_le (by rw [List.length_drop]; omega)
def sp_whole_of (K : PySem.W.Frag) : Sp := fun vs H Q _ => ∃ (N : List Addr) (v : V) (rs : List (List (Int × Int))), vs = [v] ∧ Live N H ∧ Dp K (cut N H) v (rowD rs) ∧ 1 ≤ rs.length ∧ RowOk rs ∧ Told K N H (sD (compRow rs)) Q
def sp_whole (ad : Ads) (K : PySem.W.Frag) : Sp := fun vs H Q E => ∃ (N : List Addr) (v : V) (d : PyData), vs = [v] ∧ Live N H ∧ Dp K (cut N H) v d ∧
  ((∃ e, rowOut d = .er .row e ∧ ToldX K ad N H (.er .row e) Q E) ∨ ∃ rs, d = rowD rs ∧ GoodRow rs ∧ ((256 < degs rs ∧ ToldX K ad N H (.er .grt (.int 256)) Q E) ∨ (degs rs ≤ 256 ∧ RowOk rs ∧ Told K N H (sD (compRow rs)) Q)))
theorem ToldX.later {N : List Addr} {H H1 : Hp} {o : Out} {Q : VK} {E : XK} (k : ToldX K ad N H o Q E) (s : Same H H1) : ToldX K ad N H1 o Q E := by
  cases o with
  | ok d => exact fun v H' s' hd => k v H' (s.trans s') hd
  | er e d =>
    cases e <;> first | exact fun H' s' => k H' (s.trans s') | exact fun p u H' s' => k p u H' (s.trans s')
/-! ### numbers along a row -/
def sp_numbers_along (ad : Ads) (K : PySem.W.Frag) : Sp := fun vs H Q E => ∃ (N : List Addr) (v u : V) (d e : PyData), vs = [v, u] ∧ Live N H ∧ Dp K (cut N H) v d ∧ Dp K (cut N H) u e ∧
  ((∃ e, rowOut d = .er .row e ∧ ToldX K ad N H (.er .row e) Q E) ∨ ∃ rs, d = rowD rs ∧ GoodRow rs ∧ ((isNum e = false ∧ ToldX K ad N H (.er .num e) Q E) ∨ (isNum e = true ∧ ((256 < degs rs ∧ ToldX K ad N H (.er .grt (.int 256)) Q E) ∨
    (degs rs ≤ 256 ∧ ∃ x, e = nD x ∧ ValOk rs x ∧ Told K N H (sD (alongL rs x)) Q)))))
end
end My

set_option Elab.async false
set_option linter.all false
set_option maxRecDepth 100000
set_option maxHeartbeats 8000000
set_option exponentiation.threshold 20000
namespace My
open PySem PySem.Spec PyProof.Rows L2 LamX
/-! ### the law's world, and lists that grow in it -/
structure Wn (K : PySem.W.Frag) (nm : Str) (pd pl PP : Addr) (N : List Addr) (H : Hp) (m : Nat) : Prop where
  st : St K N H pd pl m
  tb : Tabs (T0 nm PP) H
  lv : ∀ a ∈ N, a = PP ∨ ∃ o, H a = some o ∧ ∀ ps, o ≠ .tbl ps
section
variable {K : PySem.W.Frag} {nm : Str} {pd pl PP : Addr} {N : List Addr} {H H' : Hp} {m : Nat}
theorem Wd.wn (W : Wd K nm pd pl PP H m) : Wn K nm pd pl PP [pd, pl, PP] H m := ⟨W.st, W.tb, fun a ha => by
  obtain ⟨pc, cells, lefts, n, e1, e2, _⟩ := W.st.ex
  simp only [List.mem_cons, List.not_mem_nil, or_false] at ha
  rcases ha with z | z | z
  · exact .inr ⟨_, z ▸ e1, fun ps z => by cases z⟩
  · exact .inr ⟨_, z ▸ e2, fun ps z => by cases z⟩
  · exact .inl z⟩
theorem Wn.live (W : Wn K nm pd pl PP N H m) : Live N H := fun a ha => by
  rcases W.lv a ha with z | ⟨o, z, _⟩
  · obtain ⟨ps, e3, _⟩ := W.tb _ List.mem_cons_self
    have e3 : H PP = some (.tbl ps) := e3
    rw [z, e3]; simp
  · rw [z]; simp
theorem Wn.extN (W : Wn K nm pd pl PP N H m) (e : ExtN H H') (t : Tabs (T0 nm PP) H') : Wn K nm pd pl PP N H' m := by
  obtain ⟨pc, cells, lefts, n, e1, e2, e3, e4⟩ := W.st.ex
  refine ⟨⟨W.st.md, W.st.ml, pc, cells, lefts, n, e _ _ e1 (fun ps z => by cases z), e _ _ e2 (fun ps z => by cases z), lst_extN (ExtN.of_cut e) e3, e4⟩, t, fun a ha => ?_⟩
  rcases W.lv a ha with z | ⟨o, z, n⟩
  · exact .inl z
  · exact .inr ⟨o, e _ _ z n, n⟩
theorem Wn.same (W : Wn K nm pd pl PP N H m) (s : Same H H') : Wn K nm pd pl PP N H' m := W.extN (ExtN.of s) (W.tb.ext s)
theorem Wn.more {m' : Nat} (W : Wn K nm pd pl PP N H m) (h : m ≤ m') : Wn K nm pd pl PP N H m' := ⟨W.st.more h, W.tb, W.lv⟩
theorem Wn.push {p : Addr} {xs : List V} (W : Wn K nm pd pl PP N H m) (n : H p = none) : Wn K nm pd pl PP (p :: N) (upd H p (.lst xs)) m := by
  refine ⟨W.st.push n _, W.tb.ext (same_new n), fun a ha => ?_⟩
  by_cases e : a = p
  · rw [e]
    exact .inr ⟨_, upd_same, fun ps z => by cases z⟩
  · rcases List.mem_cons.mp ha with z | z
    · exact absurd z e
    · rcases W.lv a z with z | ⟨o, z, n⟩
      · exact .inl z
      · exact .inr ⟨o, by rw [upd_ne e]; exact z, n⟩
theorem Wn.set {p : Addr} {xs ys : List V} (W : Wn K nm pd pl PP N H m) (hp : p ∈ N) (h : H p = some (.lst ys)) (h1 : p ≠ pl) : Wn K nm pd pl PP N (upd H p (.lst xs)) m := by
  obtain ⟨pc, cells, lefts, n, e1, e2, e3, e4⟩ := W.st.ex
  have h2 : p ≠ pd := by
    intro z
    rw [z, e1] at h
    cases h
  refine ⟨⟨W.st.md, W.st.ml, pc, cells, lefts, n, by rw [upd_ne (Ne.symm h2)]; exact e1, by rw [upd_ne (Ne.symm h1)]; exact e2, by rw [cut_upd hp]; exact e3, e4⟩, fun q hq => ?_, fun a ha => ?_⟩
  · obtain ⟨ps, h1, h2, h3⟩ := W.tb q hq
    have ne1 : q.1 ≠ p := ne_of h1 h (by intro z; cases z)
    refine ⟨ps, by rw [upd_ne ne1]; exact h1, h2, fun pos cv hc => ?_⟩
    obtain ⟨a, rfl, ha⟩ := h3 pos cv hc
    have ne2 : a ≠ p := ne_of ha h (by intro z; cases z)
    exact ⟨a, rfl, by rw [upd_ne ne2]; exact ha⟩
  · by_cases e : a = p
    · rw [e]
      exact .inr ⟨_, upd_same, fun ps z => by cases z⟩
    · rcases W.lv a ha with z | ⟨o, z, n⟩
      · exact .inl z
      · exact .inr ⟨o, by rw [upd_ne e]; exact z, n⟩
theorem Wn.chg {m' : Nat} (W : Wn K nm pd pl PP N H m) (c : Chg pd pl H H') (S : St K N H' pd pl m') : Wn K nm pd pl PP N H' m' := by
  obtain ⟨pc, cells, lefts, n, e1, e2, _⟩ := W.st.ex
  obtain ⟨pc', cells', lefts', n', f1, f2, _⟩ := S.ex
  refine ⟨S, fun p hp => ?_, fun a ha => ?_⟩
  · obtain ⟨ps, h1, h2, h3⟩ := W.tb p hp
    refine ⟨ps, c _ _ (ne_of h1 e1 (by intro z; cases z)) (ne_of h1 e2 (by intro z; cases z)) h1, h2, fun pos cv hc => ?_⟩
    obtain ⟨a, rfl, ha⟩ := h3 pos cv hc
    exact ⟨a, rfl, c _ _ (ne_of ha e1 (by intro z; cases z)) (ne_of ha e2 (by intro z; cases z)) ha⟩
  · by_cases z1 : a = pd
    · exact .inr ⟨_, z1 ▸ f1, fun ps z => by cases z⟩
    · by_cases z2 : a = pl
      · exact .inr ⟨_, z2 ▸ f2, fun ps z => by cases z⟩
      · rcases W.lv a ha with z | ⟨o, z, n⟩
        · exact .inl z
        · exact .inr ⟨o, c _ _ z1 z2 z, n⟩
/-- a list at p that grows, its items data -/
structure Gr (K : PySem.W.Frag) (pl : Addr) (N : List Addr) (H : Hp) (p : Addr) (ds : List PyData) : Prop where
  mem : p ∈ N
  npl : p ≠ pl
  ex : ∃ acc, H p = some (.lst acc) ∧ DpAll K (cut N H) acc ds
theorem Gr.extN {p : Addr} {ds : List PyData} (G : Gr K pl N H p ds) (e : ExtN H H') : Gr K pl N H' p ds := by
  obtain ⟨acc, h1, h2⟩ := G.ex
  exact ⟨G.mem, G.npl, acc, e _ _ h1 (fun ps z => by cases z), dpAll_extN (ExtN.of_cut e) _ _ h2⟩
theorem Gr.same {p : Addr} {ds : List PyData} (G : Gr K pl N H p ds) (s : Same H H') : Gr K pl N H' p ds := G.extN (ExtN.of s)
theorem dp_push {v : V} {d : PyData} {p : Addr} (h : Dp K (cut N H) v d) (n : H p = none) (o : HO) : Dp K (cut (p :: N) (upd H p o)) v d := h.ext (cut_add n o)
theorem Gr.push {p q : Addr} {ds : List PyData} {o : HO} (G : Gr K pl N H p ds) (n : H q = none) : Gr K pl (q :: N) (upd H q o) p ds := by
  obtain ⟨acc, h1, h2⟩ := G.ex
  exact ⟨List.mem_cons_of_mem _ G.mem, G.npl, acc, by rw [upd_ne (ne_of_none h1 n)]; exact h1, h2.ext (cut_add n o)⟩
theorem Gr.new (W : Wn K nm pd pl PP N H m) {p : Addr} {xs : List V} {ds : List PyData} (n : H p = none) (d : DpAll K (cut N H) xs ds) : Gr K pl (p :: N) (upd H p (.lst xs)) p ds := by
  refine ⟨List.mem_cons_self, fun z => ?_, xs, upd_same, d.ext (cut_add n _)⟩
  have := W.live.new n
  exact this (z ▸ W.st.ml)
theorem Gr.app {p : Addr} {ds : List PyData} {acc : List V} {v : V} {d : PyData} (G : Gr K pl N H p ds) (h : H p = some (.lst acc)) (hd : Dp K (cut N H) v d) : Gr K pl N (upd H p (.lst (acc ++ [v]))) p (ds ++ [d]) := by
  obtain ⟨acc', h1, h2⟩ := G.ex
  rw [h] at h1
  cases h1
  refine ⟨G.mem, G.npl, _, upd_same, ?_⟩
  rw [cut_upd G.mem]
  exact DpAll.append h2 (.cons hd .nil)
theorem Gr.other {p q : Addr} {ds es : List PyData} {xs : List V} (G : Gr K pl N H p ds) (E : Gr K pl N H q es) (ne : p ≠ q) : Gr K pl N (upd H q (.lst xs)) p ds := by
  obtain ⟨acc, h1, h2⟩ := G.ex
  exact ⟨G.mem, G.npl, acc, by rw [upd_ne ne]; exact h1, by rw [cut_upd E.mem]; exact h2⟩
theorem Gr.chg {p : Addr} {ds : List PyData} (G : Gr K pl N H p ds) (W : Wn K nm pd pl PP N H m) (c : Chg pd pl H H') : Gr K pl N H' p ds := by
  obtain ⟨acc, h1, h2⟩ := G.ex
  obtain ⟨pc, cells, lefts, n, e1, e2, _⟩ := W.st.ex
  have h3 : p ≠ pd := by
    intro z
    rw [z, e1] at h1
    cases h1
  exact ⟨G.mem, G.npl, acc, c _ _ h3 G.npl h1, h2.ext (c.cut W.st.md W.st.ml)⟩
theorem Gr.dp {p : Addr} {ds : List PyData} (G : Gr K pl N H p ds) : Dp K H (.ref p) (.list ds) := by
  obtain ⟨acc, h1, h2⟩ := G.ex
  exact .lst (.inl (.inl h1)) h2.un
theorem Gr.len {p : Addr} {ds : List PyData} {acc : List V} (G : Gr K pl N H p ds) (h : H p = some (.lst acc)) : acc.length = ds.length := by
  obtain ⟨acc', h1, h2⟩ := G.ex
  rw [h] at h1
  cases h1
  exact h2.length
theorem Gr.all {p : Addr} {ds : List PyData} {acc : List V} (G : Gr K pl N H p ds) (h : H p = some (.lst acc)) : DpAll K (cut N H) acc ds := by
  obtain ⟨acc', h1, h2⟩ := G.ex
  rw [h] at h1
  cases h1
  exact h2
end
section
variable {K : PySem.W.Frag} {nm : Str} {pd pl PP : Addr} {N : List Addr} {H H' : Hp} {m : Nat}
theorem dp_next {v : V} {d : PyData} {Ha Hd : Hp} (h : Dp K (cut N H) v d) (e : ExtN H Ha) (s : Same Ha Hd) : Dp K (cut N Hd) v d := dp_extN (ExtN.of_cut (e.trans (ExtN.of s))) _ _ h
/-- one more thing told -/
theorem step_told {Ha Hd : Hp} {pt : Addr} {acc : List V} {ds : List PyData} {v : V} {d : PyData} (W : Wn K nm pd pl PP N H m) (G : Gr K pl N H pt ds) (ea : H pt = some (.lst acc)) (eN : ExtN H Ha) (T1 : Tabs (T0 nm PP) Ha) (s3 : Same Ha Hd) (h3 : Dp K (cut N Hd) v d) :
    Hd pt = some (.lst acc) ∧ Wn K nm pd pl PP N (upd Hd pt (.lst (acc ++ [v]))) m ∧ Gr K pl N (upd Hd pt (.lst (acc ++ [v]))) pt (ds ++ [d]) ∧ ∀ {u : V} {e : PyData}, Dp K (cut N H) u e → Dp K (cut N (upd Hd pt (.lst (acc ++ [v])))) u e := by
  have e1 : Hd pt = some (.lst acc) := s3 _ _ (eN _ _ ea (fun ps z => by cases z))
  have W1 := (W.extN eN T1).same s3
  have G1 := (G.extN eN).same s3
  refine ⟨e1, W1.set G.mem e1 G.npl, G1.app e1 h3, fun {u e} h => ?_⟩
  rw [cut_upd G.mem]
  exact dp_next h eN s3
end
theorem dp_set {K : PySem.W.Frag} {N : List Addr} {H : Hp} {p : Addr} {o : HO} {v : V} {d : PyData} (hp : p ∈ N) (h : Dp K (cut N H) v d) : Dp K (cut N (upd H p o)) v d := by
  rw [cut_upd hp]
  exact h
/-! ### powers -/
def powS (n : Nat) : List (Int × Int) := List.replicate n (0, 1) ++ [(1, 1)]
theorem powD_eq (n : Nat) : powD n = sD (powS n) := by
  unfold powD sD powS
  rw [List.map_append, List.map_replicate]
  rfl
theorem powS_mem {n : Nat} {q : Int × Int} (h : q ∈ powS n) : q = (0, 1) ∨ q = (1, 1) := by
  rcases List.mem_append.mp h with z | z
  · exact .inl (List.eq_of_mem_replicate z)
  · exact .inr (List.mem_singleton.mp z)
theorem powS_len (n : Nat) : (powS n).length = n + 1 := by unfold powS; simp
theorem powS_stp {n : Nat} (h : 1 ≤ n) : Stp (powS n) := by
  refine ⟨fun q hq => ?_, by rw [powS_len]; omega, fun q hq => ?_⟩
  · rcases powS_mem hq with z | z
    · rw [z]; exact low_0
    · rw [z]; exact low_1
  · unfold powS at hq
    rw [List.getLast?_concat] at hq
    cases hq
    decide
theorem powS_lcm (n : Nat) : lcmL (powS n) = 1 := Nat.dvd_one.mp (lcmL_dvd_of _ fun q hq => by
  rcases powS_mem hq with z | z <;> (rw [z]; decide))
theorem powS_bits (n : Nat) : Bits 0 0 (powS n) := by
  refine ⟨?_, by rw [powS_lcm]; decide⟩
  have e : tops (powS n) = List.replicate n 0 ++ [1] := by
    unfold tops
    rw [powS_lcm]
    unfold powS
    rw [List.map_append, List.map_replicate]
    rfl
  rw [e, nrm_append, nrm_zero]
  decide
theorem pval_zeros (x : Rat) : ∀ n, pval (List.replicate n 0) x = 0
  | 0 => rfl
  | n + 1 => by
    rw [List.replicate_succ]
    show 0 + x * pval (List.replicate n 0) x = 0
    rw [pval_zeros x n]
    grind
theorem val_11 : val (1, 1) = 1 := by unfold val; simp; grind
theorem powS_val (n : Nat) (x : Rat) : pval ((powS n).map val) x = x ^ n := by
  unfold powS
  rw [List.map_append, List.map_replicate, val_01]
  show pval (List.replicate n 0 ++ [val (1, 1)]) x = x ^ n
  rw [pval_snoc, pval_zeros, List.length_replicate, val_11]
  grind
theorem rpow_mul (x : Rat) (a : Nat) : ∀ b : Nat, (x ^ a) ^ b = x ^ (a * b)
  | 0 => by rw [Rat.pow_zero, Nat.mul_zero, Rat.pow_zero]
  | b + 1 => by rw [Rat.pow_succ, rpow_mul x a b, Nat.mul_add, Nat.mul_one, rpow_add]
theorem powS_comp {a b : Nat} (ha : 1 ≤ a) (hb : 1 ≤ b) : compQ (powS a) (powS b) = powS (a * b) := by
  have sa := powS_stp ha
  have sb := powS_stp hb
  have sab := powS_stp (n := a * b) (Nat.mul_le_mul ha hb)
  have c := compQ_stp sa sb
  refine canon c.low sab.low c.tr sab.tr fun x => ?_
  rw [compQ_val sa.pos sa.ne sb.pos sb.ne, powS_val, powS_val, powS_val, rpow_mul]
theorem powS_put {a b : Nat} (ha : 1 ≤ a) (hb : 1 ≤ b) (h : a * b + 1 + (a + 1) + (b + 1) ≤ 900) : PutOk (powS a) (powS b) := by
  refine ⟨powS_stp ha, powS_stp hb, ⟨0, 0, 0, 0, powS_bits a, Nat.le_refl _, powS_bits b, ?_, ?_, ?_, ?_⟩, ?_⟩
  all_goals rw [powS_len]
  · omega
  · omega
  · omega
  · omega
  · rw [powS_len, Nat.add_sub_cancel, Nat.add_sub_cancel]
    exact h
theorem powS_num (q : Int × Int) {n : Nat} (h : q ∈ powS n) : isNum (nD q) = true := by
  rcases powS_mem h with z | z <;> (rw [z]; decide)
theorem powS_is {n : Nat} (h1 : 1 ≤ n) (h2 : n ≤ 64) : isStep (sD (powS n)) = true := by
  have hall : ((powS n).map nD).all isNum = true := by
    rw [List.all_eq_true]
    intro x hx
    obtain ⟨q, hq, rfl⟩ := List.mem_map.mp hx
    exact powS_num q hq
  unfold sD
  rw [isStep_tup, hall, decide_eq_true (by rw [List.length_map, powS_len]; omega), decide_eq_true (by rw [List.length_map, powS_len]; omega)]
  have : (powS n).getLast? = some (1, 1) := by unfold powS; rw [List.getLast?_concat]
  rw [last_map this]
  rfl
theorem powS_fit (n : Nat) : Fit 1 1 (powS n) := ⟨fun q hq => by rcases powS_mem hq with z | z <;> (rw [z]; decide), fun q hq => by rcases powS_mem hq with z | z <;> (rw [z]; decide), fun q hq => by rcases powS_mem hq with z | z <;> (rw [z]; decide)⟩
theorem powS_row {n : Nat} (h : 1 ≤ n) : ∀ k, compRow (List.replicate (k + 1) (powS n)) = powS (n ^ (k + 1))
  | 0 => by
    show powS n = powS (n ^ (0 + 1))
    rw [Nat.zero_add, Nat.pow_one]
  | k + 1 => by
    have e : List.replicate (k + 2) (powS n) = List.replicate (k + 1) (powS n) ++ [powS n] := List.replicate_succ'
    have e2 := compRow_more (rs := List.replicate (k + 2) (powS n)) (i := k) (s := powS n) (by rw [List.getElem?_replicate, if_pos (by omega)])
    rw [List.take_replicate, List.take_replicate, Nat.min_self, Nat.min_eq_left (by omega), powS_row h k, powS_comp (Nat.pow_pos h) h] at e2
    exact e2.trans (congrArg powS (Nat.pow_succ ..).symm)
theorem sh_one (q : Int × Int) (h : okSh 10 1 (nD q) = true) : Sh 10 1 (nD q) := sh_of h
theorem sh_powS (n : Nat) : Sh ((n + 1) * 12 + 3) 2 (sD (powS n)) := by
  have := sh_tup (n := 10) (k := 1) (ds := (powS n).map nD) (fun d hd => by
    obtain ⟨q, hq, rfl⟩ := List.mem_map.mp hd
    rcases powS_mem hq with z | z <;> (rw [z]; exact sh_of (by decide +kernel)))
  rw [List.length_map, powS_len] at this
  exact this
end My

set_option Elab.async false
set_option linter.all false
set_option maxRecDepth 100000
set_option maxHeartbeats 8000000
set_option exponentiation.threshold 20000
namespace My
open PySem PySem.Spec PyProof.Rows L2 LamX
/-- tables of code, and a datum that is kept -/
structure Kt where
  tabs : List (Addr × Str)
  kx : V
  kd : PyData
/-! ### the law's world with any number of tables of code -/
structure Wt (K : PySem.W.Frag) (T : Kt) (pd pl : Addr) (N : List Addr) (H : Hp) (m : Nat) : Prop where
  st : St K N H pd pl m
  tb : Tabs T.tabs H
  kp : Dp K (cut N H) T.kx T.kd
  lv : ∀ a ∈ N, (∃ q ∈ T.tabs, a = q.1) ∨ ∃ o, H a = some o ∧ ∀ ps, o ≠ .tbl ps
section
variable {K : PySem.W.Frag} {T : Kt} {pd pl : Addr} {N : List Addr} {H H' : Hp} {m : Nat}
theorem Wt.live (W : Wt K T pd pl N H m) : Live N H := fun a ha => by
  rcases W.lv a ha with z | ⟨o, z, _⟩
  · obtain ⟨q, hq, rfl⟩ := z
    obtain ⟨ps, e3, _⟩ := W.tb q hq
    rw [e3]; simp
  · rw [z]; simp
theorem Wt.extN (W : Wt K T pd pl N H m) (e : ExtN H H') (t : Tabs T.tabs H') : Wt K T pd pl N H' m := by
  obtain ⟨pc, cells, lefts, n, e1, e2, e3, e4⟩ := W.st.ex
  refine ⟨⟨W.st.md, W.st.ml, pc, cells, lefts, n, e _ _ e1 (fun ps z => by cases z), e _ _ e2 (fun ps z => by cases z), lst_extN (ExtN.of_cut e) e3, e4⟩, t, dp_extN (ExtN.of_cut e) _ _ W.kp, fun a ha => ?_⟩
  rcases W.lv a ha with z | ⟨o, z, n⟩
  · exact .inl z
  · exact .inr ⟨o, e _ _ z n, n⟩
theorem Wt.same (W : Wt K T pd pl N H m) (s : Same H H') : Wt K T pd pl N H' m := W.extN (ExtN.of s) (W.tb.ext s)
theorem Wt.more {m' : Nat} (W : Wt K T pd pl N H m) (h : m ≤ m') : Wt K T pd pl N H m' := ⟨W.st.more h, W.tb, W.kp, W.lv⟩
theorem Wt.push {p : Addr} {xs : List V} (W : Wt K T pd pl N H m) (n : H p = none) : Wt K T pd pl (p :: N) (upd H p (.lst xs)) m := by
  refine ⟨W.st.push n _, W.tb.ext (same_new n), dp_push W.kp n _, fun a ha => ?_⟩
  by_cases e : a = p
  · rw [e]
    exact .inr ⟨_, upd_same, fun ps z => by cases z⟩
  · rcases List.mem_cons.mp ha with z | z
    · exact absurd z e
    · rcases W.lv a z with z | ⟨o, z, n⟩
      · exact .inl z
      · exact .inr ⟨o, by rw [upd_ne e]; exact z, n⟩
theorem Wt.set {p : Addr} {xs ys : List V} (W : Wt K T pd pl N H m) (hp : p ∈ N) (h : H p = some (.lst ys)) (h1 : p ≠ pl) : Wt K T pd pl N (upd H p (.lst xs)) m := by
  obtain ⟨pc, cells, lefts, n, e1, e2, e3, e4⟩ := W.st.ex
  have h2 : p ≠ pd := by
    intro z
    rw [z, e1] at h
    cases h
  refine ⟨⟨W.st.md, W.st.ml, pc, cells, lefts, n, by rw [upd_ne (Ne.symm h2)]; exact e1, by rw [upd_ne (Ne.symm h1)]; exact e2, by rw [cut_upd hp]; exact e3, e4⟩, fun q hq => ?_, by rw [cut_upd hp]; exact W.kp, fun a ha => ?_⟩
  · obtain ⟨ps, h1, h2, h3⟩ := W.tb q hq
    have ne1 : q.1 ≠ p := ne_of h1 h (by intro z; cases z)
    refine ⟨ps, by rw [upd_ne ne1]; exact h1, h2, fun pos cv hc => ?_⟩
    obtain ⟨a, rfl, ha⟩ := h3 pos cv hc
    have ne2 : a ≠ p := ne_of ha h (by intro z; cases z)
    exact ⟨a, rfl, by rw [upd_ne ne2]; exact ha⟩
  · by_cases e : a = p
    · rw [e]
      exact .inr ⟨_, upd_same, fun ps z => by cases z⟩
    · rcases W.lv a ha with z | ⟨o, z, n⟩
      · exact .inl z
      · exact .inr ⟨o, by rw [upd_ne e]; exact z, n⟩
theorem Wt.chg {m' : Nat} (W : Wt K T pd pl N H m) (c : Chg pd pl H H') (S : St K N H' pd pl m') : Wt K T pd pl N H' m' := by
  obtain ⟨pc, cells, lefts, n, e1, e2, _⟩ := W.st.ex
  obtain ⟨pc', cells', lefts', n', f1, f2, _⟩ := S.ex
  refine ⟨S, fun p hp => ?_, W.kp.ext (c.cut W.st.md W.st.ml), fun a ha => ?_⟩
  · obtain ⟨ps, h1, h2, h3⟩ := W.tb p hp
    refine ⟨ps, c _ _ (ne_of h1 e1 (by intro z; cases z)) (ne_of h1 e2 (by intro z; cases z)) h1, h2, fun pos cv hc => ?_⟩
    obtain ⟨a, rfl, ha⟩ := h3 pos cv hc
    exact ⟨a, rfl, c _ _ (ne_of ha e1 (by intro z; cases z)) (ne_of ha e2 (by intro z; cases z)) ha⟩
  · by_cases z1 : a = pd
    · exact .inr ⟨_, z1 ▸ f1, fun ps z => by cases z⟩
    · by_cases z2 : a = pl
      · exact .inr ⟨_, z2 ▸ f2, fun ps z => by cases z⟩
      · rcases W.lv a ha with z | ⟨o, z, n⟩
        · exact .inl z
        · exact .inr ⟨o, c _ _ z1 z2 z, n⟩
theorem Gr.newT (W : Wt K T pd pl N H m) {p : Addr} {xs : List V} {ds : List PyData} (n : H p = none) (d : DpAll K (cut N H) xs ds) : Gr K pl (p :: N) (upd H p (.lst xs)) p ds := by
  refine ⟨List.mem_cons_self, fun z => ?_, xs, upd_same, d.ext (cut_add n _)⟩
  have := W.live.new n
  exact this (z ▸ W.st.ml)
theorem Gr.chgT {p : Addr} {ds : List PyData} (G : Gr K pl N H p ds) (W : Wt K T pd pl N H m) (c : Chg pd pl H H') : Gr K pl N H' p ds := by
  obtain ⟨acc, h1, h2⟩ := G.ex
  obtain ⟨pc, cells, lefts, n, e1, e2, _⟩ := W.st.ex
  have h3 : p ≠ pd := by
    intro z
    rw [z, e1] at h1
    cases h1
  exact ⟨G.mem, G.npl, acc, c _ _ h3 G.npl h1, h2.ext (c.cut W.st.md W.st.ml)⟩
/-- one more thing told -/
theorem step_toldT {Ha Hd : Hp} {pt : Addr} {acc : List V} {ds : List PyData} {v : V} {d : PyData} (W : Wt K T pd pl N H m) (G : Gr K pl N H pt ds) (ea : H pt = some (.lst acc)) (eN : ExtN H Ha) (T1 : Tabs T.tabs Ha) (s3 : Same Ha Hd) (h3 : Dp K (cut N Hd) v d) :
    Hd pt = some (.lst acc) ∧ Wt K T pd pl N (upd Hd pt (.lst (acc ++ [v]))) m ∧ Gr K pl N (upd Hd pt (.lst (acc ++ [v]))) pt (ds ++ [d]) ∧ ∀ {u : V} {e : PyData}, Dp K (cut N H) u e → Dp K (cut N (upd Hd pt (.lst (acc ++ [v])))) u e := by
  have e1 : Hd pt = some (.lst acc) := s3 _ _ (eN _ _ ea (fun ps z => by cases z))
  have W1 := (W.extN eN T1).same s3
  have G1 := (G.extN eN).same s3
  refine ⟨e1, W1.set G.mem e1 G.npl, G1.app e1 h3, fun {u e} h => ?_⟩
  rw [cut_upd G.mem]
  exact dp_next h eN s3
end
end My

set_option Elab.async false
set_option linter.all false
set_option maxRecDepth 100000
set_option maxHeartbeats 4000000
set_option exponentiation.threshold 20000
namespace My
open PySem PySem.Spec PyProof.Rows L2
/-- what the law's own putting in asks -/
structure WinOk (s t : List (Int × Int)) : Prop where
  ss : Stp s
  st : Stp t
  ex : ∃ m d c e : Nat, Bits m d s ∧ d ≤ m ∧ Bits c e t ∧ c + (m + 1) * t.length ≤ 2400 ∧ e + d * t.length ≤ 2400
  len : (s.length - 1) * (t.length - 1) + 1 + s.length + t.length ≤ 290
def stQ (s t : List (Int × Int)) : Nat → List (Int × Int)
  | 0 => [(0, 1)]
  | k + 1 => wpQ s t k
theorem win_form {s t : List (Int × Int)} (ok : WinOk s t) (i : Nat) (hi : i < t.length) : ∃ (F : List Int) (D : Int), stQ s t i = ov D F ∧ PF D (lcmL s : Int) F (tops s) 2450 ∧ 1 ≤ F.length ∧ F.length ≤ 300 := by
  obtain ⟨m, d, c, e, b1, hdm, b2, z1, z2⟩ := ok.ex
  have Ls := ok.ss.two
  have Lt := ok.st.two
  have hlen := ok.len
  have hB := lcm_pos' ok.ss.pos
  have hT := lcm_pos' ok.st.pos
  have P : ∀ {a b : Nat}, a ≤ b → 2 ^ a ≤ 2 ^ b := fun h => Nat.pow_le_pow_right (by decide) h
  have mt : m ≤ (m + 1) * t.length := Nat.le_trans (Nat.le_succ m) (Nat.le_mul_of_pos_right _ (by omega))
  have dt : d ≤ d * t.length := Nat.le_mul_of_pos_right _ (by omega)
  have hI : nrm (tops s) ≤ 2 ^ 2450 := Nat.le_trans b1.top (P (by omega))
  have hb : (lcmL s : Int).natAbs ≤ 2 ^ d := by rw [Int.natAbs_natCast]; exact b1.bot
  cases i with
  | zero =>
    refine ⟨[0], 1, ?_, ⟨by decide, hB, ?_, hI, ?_, ?_, Nat.le_trans hb (P (by omega)), ?_⟩, by simp, by simp⟩
    · show [(0, 1)] = [fr 0 1]
      rw [fr_zero (by decide)]
    · have : nrm [0] = 0 := by decide
      rw [this]
      exact Nat.zero_le _
    · have : nrm [0] = 0 := by decide
      rw [this, Nat.zero_mul]
      exact Nat.zero_le _
    · show 1 ≤ 2 ^ 2450
      exact Nat.one_le_two_pow
    · rw [Int.one_mul]
      exact Nat.le_trans hb (P (by omega))
  | succ k =>
    have rl := restI_len t
    have hh : ∀ z ∈ tops t, z.natAbs ≤ 2 ^ c := fun z hz => Nat.le_trans (nrm_mem hz) b2.top
    have bd := putI_bd (I := tops s) (B := (lcmL s : Int)) (head := headI t) (m := m) (c := c) b1.top (by rw [Int.natAbs_natCast]; exact Nat.le_trans b1.bot (P hdm))
      (hh _ (by rw [← headI_last ok.st.ne]; exact List.mem_append_right _ List.mem_cons_self)) ((restI t).take k) (fun z hz => hh z ((List.dropLast_sublist _).subset (List.mem_reverse.mp (List.mem_of_mem_take hz))))
    have hk : ((restI t).take k).length = k := by rw [List.length_take]; omega
    rw [hk] at bd
    have hD : 0 < (wpI s t k).2 := putI_pos hB _
    have sD' : (wpI s t k).2.natAbs ≤ 2 ^ (d * k) := by
      unfold wpI
      rw [putI_snd, hk, Int.natAbs_pow, Int.natAbs_natCast, Nat.pow_mul]
      exact Nat.pow_le_pow_left b1.bot _
    have mk1 : (m + 1) * (k + 1) ≤ (m + 1) * t.length := Nat.mul_le_mul_left _ (by omega)
    have mk2 : (m + 1) * (k + 1) = (m + 1) * k + (m + 1) := by rw [Nat.mul_add, Nat.mul_one]
    have dk1 : d * (k + 1) ≤ d * t.length := Nat.mul_le_mul_left _ (by omega)
    have dk2 : d * (k + 1) = d * k + d := by rw [Nat.mul_add, Nat.mul_one]
    have hF : nrm (wpI s t k).1 ≤ 2 ^ (c + (m + 1) * k) := bd.1
    have hDT : ((lcmL t : Int) * (wpI s t k).2).natAbs ≤ 2 ^ (e + d * k) := by
      rw [Int.natAbs_mul, Int.natAbs_natCast, Nat.pow_add]
      exact Nat.mul_le_mul b2.bot sD'
    have ll := wpI_len ok.ss ok.st.low ok.st.ne ok.st.tr k (by omega)
    have hm : (s.length - 1) * k ≤ (s.length - 1) * (t.length - 1) := Nat.mul_le_mul_left _ (by omega)
    refine ⟨(wpI s t k).1, (lcmL t : Int) * (wpI s t k).2, rfl, ⟨Int.mul_pos hT hD, hB, Nat.le_trans hF (P (by omega)), hI, ?_, Nat.le_trans hDT (P (by omega)), Nat.le_trans hb (P (by omega)), ?_⟩, by omega, by omega⟩
    · refine Nat.le_trans (Nat.mul_le_mul hF b1.top) ?_
      rw [← Nat.pow_add]
      exact P (by omega)
    · rw [Int.natAbs_mul]
      refine Nat.le_trans (Nat.mul_le_mul hDT hb) ?_
      rw [← Nat.pow_add]
      exact P (by omega)
theorem win_step {s t : List (Int × Int)} (ok : WinOk s t) (i : Nat) (hi : i < t.length) : trimQ (sumQ (trimQ (prodQ (stQ s t i) s (stQ s t i).length)) [t[t.length - 1 - i]]) = stQ s t (i + 1) := by
  have Lt := ok.st.two
  cases i with
  | zero =>
    have e : t[t.length - 1 - 0]'(by omega) = t.getLast ok.st.ne := by rw [List.getLast_eq_getElem]; rfl
    rw [e]
    exact wpQ_zero ok.ss ok.st.low ok.st.ne ok.st.tr
  | succ k =>
    have rl := restI_len t
    refine wpQ_succ ok.ss ok.st.low ok.st.ne ok.st.tr k (by omega) _ ?_
    rw [List.getElem?_eq_getElem (by omega)]
    congr 2
    omega
section
variable {P : Program} {w : World} {K : PySem.W.Frag} {mg : Str → Option Value} {base : Heap} {t1 t2 t3 : Tok} {f : Addr} {fd : FuncData} {ad : Ads}
def sp_law_within (K : PySem.W.Frag) : Sp := fun vs H Q _ => ∃ (N : List Addr) (v u : V) (s t : List (Int × Int)), vs = [v, u] ∧ Live N H ∧ Dp K (cut N H) v (sD s) ∧ Dp K (cut N H) u (sD t) ∧ WinOk s t ∧ Told K N H (sD (compQ s t)) Q
/-! ### the law's own whole -/
def RowW (rs : List (List (Int × Int))) : Prop := ∀ i s, rs[i + 1]? = some s → WinOk (compRow (rs.take (i + 1))) s
def sp_law_whole (K : PySem.W.Frag) : Sp := fun vs H Q _ => ∃ (N : List Addr) (v : V) (rs : List (List (Int × Int))), vs = [v] ∧ Live N H ∧ Dp K (cut N H) v (rowD rs) ∧ 1 ≤ rs.length ∧ RowW rs ∧ Told K N H (sD (compRow rs)) Q
/-! ### the law's own value -/
theorem lawV_bd {c n : Nat} {x : Int × Int} (hx : Bd n x) (l : List (Int × Int)) (hl : ∀ q ∈ l, Bd c q) : Bd (1 + l.length * (n + c + 1)) (l.foldl (fun f q => qadd (qmul f x) q) (0, 1)) := by
  revert hl
  refine snoc_ind l ?_ ?_
  · intro _
    exact bd_nought (by omega)
  · intro l q ih hl
    have h1 := ih fun r hr => hl r (List.mem_append_left _ hr)
    have hq := hl q (List.mem_append_right _ List.mem_cons_self)
    rw [List.foldl_append, List.length_append, List.length_singleton]
    have := qadd_bd (qmul_bd h1 hx) hq
    refine this.mono ?_
    rw [Nat.add_mul]
    omega
def sp_law_value (K : PySem.W.Frag) : Sp := fun vs H Q _ => ∃ (N : List Addr) (v u : V) (s : List (Int × Int)) (x : Int × Int) (c n : Nat), vs = [v, u] ∧ Live N H ∧ Dp K (cut N H) v (sD s) ∧ Dp K (cut N H) u (nD x) ∧ (∀ q ∈ s, Bd c q) ∧ Bd n x ∧ 1 + (s.length + 1) * (n + c + 1) ≤ 7900 ∧ Told K N H (nD (lawV s x)) Q
end
end My

set_option Elab.async false
set_option linter.all false
set_option maxRecDepth 100000
set_option maxHeartbeats 4000000
set_option exponentiation.threshold 20000
namespace My
open PySem PySem.Spec PyProof.Rows L2
/-! ### data that may be compared -/
theorem lay_all {k : Nat} : ∀ {ds : List PyData}, (∀ d ∈ ds, d.canLay0 = true ∧ d.depth ≤ k) → PyData.canLayAll0 ds = true ∧ PyData.depthAll ds ≤ k
  | [], _ => by simp only [PyData.canLayAll0, PyData.depthAll]; exact ⟨trivial, Nat.zero_le _⟩
  | d :: ds, h => by
    obtain ⟨a, b⟩ := lay_all fun x hx => h x (List.mem_cons_of_mem _ hx)
    obtain ⟨c, e⟩ := h d List.mem_cons_self
    simp only [PyData.canLayAll0, PyData.depthAll, Bool.and_eq_true]
    exact ⟨⟨c, a⟩, Nat.max_le.mpr ⟨e, b⟩⟩
theorem lay_tup {k : Nat} {ds : List PyData} (h : ∀ d ∈ ds, d.canLay0 = true ∧ d.depth ≤ k) : (PyData.tuple ds).canLay0 = true ∧ (PyData.tuple ds).depth ≤ k + 1 := by
  obtain ⟨a, b⟩ := lay_all h
  refine ⟨by simpa only [PyData.canLay0] using a, ?_⟩
  simp only [PyData.depth]
  omega
theorem lay_num (q : Int × Int) : (nD q).canLay0 = true ∧ (nD q).depth ≤ 1 :=
  lay_tup (k := 0) (ds := [.int q.1, .int q.2]) fun d hd => by
    simp only [List.mem_cons, List.not_mem_nil, or_false] at hd
    rcases hd with z | z <;> (rw [z]; simp only [PyData.canLay0, PyData.depth]; exact ⟨trivial, Nat.le_refl _⟩)
theorem lay_step (s : List (Int × Int)) : (sD s).canLay0 = true ∧ (sD s).depth ≤ 2 := lay_tup fun d hd => by
  obtain ⟨q, _, rfl⟩ := List.mem_map.mp hd
  exact lay_num q
theorem lay_row (rs : List (List (Int × Int))) : (rowD rs).canLay0 = true ∧ (rowD rs).depth ≤ 3 := lay_tup fun d hd => by
  obtain ⟨q, _, rfl⟩ := List.mem_map.mp hd
  exact lay_step q
theorem shaped_row (rs : List (List (Int × Int))) : SeqAt.shaped (rowD rs) = true := by
  obtain ⟨a, b⟩ := lay_row rs
  unfold SeqAt.shaped
  rw [a, Bool.true_and, decide_eq_true_eq]
  omega
theorem eqv_row_nil (rs : List (List (Int × Int))) : PyData.eqv (rowD rs) (.tuple []) = decide (rs = []) := by
  cases rs with
  | nil => rfl
  | cons a l => rfl
/-! ### a drawn row -/
def Rows4 (rs : List (List (Int × Int))) : Prop := ∀ s ∈ rs, ∃ n, 1 ≤ n ∧ n ≤ 4 ∧ StepR 3 2 (n + 1) s
structure Row16 (rs : List (List (Int × Int))) : Prop where
  one : 1 ≤ rs.length
  four : rs.length ≤ 4
  step : Rows4 rs
  deg : degs rs ≤ 16
theorem degs_append (a b : List (List (Int × Int))) : degs (a ++ b) = degs a * degs b := by
  have key : ∀ (b : List (List (Int × Int))) (n : Nat), b.foldl (fun n s => n * (s.length - 1)) n = n * degs b := by
    intro b
    induction b with
    | nil => intro n; show n = n * 1; omega
    | cons s b ih =>
      intro n
      show b.foldl (fun n s => n * (s.length - 1)) (n * (s.length - 1)) = n * (b.foldl (fun n s => n * (s.length - 1)) (1 * (s.length - 1)))
      rw [ih, ih, Nat.one_mul, Nat.mul_assoc]
  unfold degs
  rw [List.foldl_append, key]
  rfl
section
variable {P : Program} {w : World} {K : PySem.W.Frag} {mg : Str → Option Value} {base : Heap} {t1 t2 t3 : Tok} {f : Addr} {fd : FuncData} {ad : Ads}
def sp_law_drawn_row (K : PySem.W.Frag) : Sp := fun vs H Q _ => ∃ (N : List Addr) (pd pl : Addr) (m : Nat), vs = [.ref pd] ∧ Live N H ∧ St K N H pd pl m ∧ m ≤ 600000 ∧
  ∀ (v : V) (rs : List (List (Int × Int))) (H' : Hp), Chg pd pl H H' → St K N H' pd pl (m + 100) → Dp K (cut N H') v (.tuple [rowD rs, .int (degs rs : Nat)]) → Row16 rs → Q v H'
end
end My

set_option Elab.async false
set_option linter.all false
set_option maxRecDepth 100000
set_option maxHeartbeats 4000000
set_option exponentiation.threshold 20000
namespace My
open PySem PySem.Spec PyProof.Rows L2
/-! ### sizes of drawn rows -/
theorem numR_abs {q : Int × Int} {wd bl : Int} (h : NumR wd bl q) : q.1.natAbs ≤ wd.natAbs ∧ 0 < q.2 ∧ q.2 ≤ bl := ⟨by have := h.lo; have := h.hi; omega, h.low.1, h.bot⟩
theorem lcm_two {s : List (Int × Int)} (h : ∀ q ∈ s, 0 < q.2 ∧ q.2 ≤ 2) : lcmL s ∣ 2 := lcmL_dvd_of s fun q hq => by
  obtain ⟨h1, h2⟩ := h q hq
  have : q.2.natAbs = 1 ∨ q.2.natAbs = 2 := by omega
  rcases this with z | z <;> (rw [z]; decide)
theorem stp_of {wd bl : Int} {n : Nat} {s : List (Int × Int)} (h : StepR wd bl n s) (hn : 2 ≤ n) : Stp s := ⟨fun q hq => (h.num q hq).low, by rw [h.len]; exact hn, h.head⟩
theorem top_small {s : List (Int × Int)} (h : ∀ q ∈ s, NumR 3 2 q) : ∀ z ∈ tops s, z.natAbs ≤ 2 ^ 3 := by
  intro z hz
  obtain ⟨q, hq, rfl⟩ := List.mem_map.mp hz
  obtain ⟨h1, h2, h3⟩ := numR_abs (h q hq)
  have hd := lcm_two (s := s) fun q hq => ⟨(numR_abs (h q hq)).2.1, (numR_abs (h q hq)).2.2⟩
  have hl : lcmL s ≤ 2 := Nat.le_of_dvd (by decide) hd
  rw [Int.natAbs_mul]
  have h4 : ((lcmL s : Int) / q.2).natAbs ≤ 2 := Nat.le_trans (natAbs_div_le _ _) (by rw [Int.natAbs_natCast]; exact hl)
  exact Nat.le_trans (Nat.mul_le_mul (show q.1.natAbs ≤ 3 from h1) h4) (by decide)
theorem nrm_len {c : Nat} : ∀ {l : List Int}, (∀ z ∈ l, z.natAbs ≤ c) → nrm l ≤ l.length * c
  | [], _ => Nat.zero_le _
  | a :: l, h => by
    rw [nrm_cons, List.length_cons, Nat.add_mul, Nat.one_mul]
    have h1 := h a List.mem_cons_self
    have h2 := nrm_len (l := l) fun z hz => h z (List.mem_cons_of_mem _ hz)
    omega
theorem top_six {s : List (Int × Int)} (h : ∀ q ∈ s, NumR 3 2 q) : ∀ z ∈ tops s, z.natAbs ≤ 6 := by
  intro z hz
  obtain ⟨q, hq, rfl⟩ := List.mem_map.mp hz
  obtain ⟨h1, h2, h3⟩ := numR_abs (h q hq)
  have hd := lcm_two (s := s) fun q hq => ⟨(numR_abs (h q hq)).2.1, (numR_abs (h q hq)).2.2⟩
  have hl : lcmL s ≤ 2 := Nat.le_of_dvd (by decide) hd
  rw [Int.natAbs_mul]
  have h4 : ((lcmL s : Int) / q.2).natAbs ≤ 2 := Nat.le_trans (natAbs_div_le _ _) (by rw [Int.natAbs_natCast]; exact hl)
  exact Nat.mul_le_mul (show q.1.natAbs ≤ 3 from h1) h4
theorem step_bits {n : Nat} {s : List (Int × Int)} (h : StepR 3 2 (n + 1) s) (hn : n ≤ 4) : Bits 5 1 s := by
  refine ⟨?_, ?_⟩
  · refine Nat.le_trans (nrm_len (top_six h.num)) ?_
    rw [tops_len, h.len]
    have : (n + 1) * 6 ≤ 5 * 6 := Nat.mul_le_mul_right _ (by omega)
    exact Nat.le_trans this (by decide)
  · exact Nat.le_of_dvd (by decide) (lcm_two fun q hq => ⟨(numR_abs (h.num q hq)).2.1, (numR_abs (h.num q hq)).2.2⟩)
theorem compQ_bits3 {s t : List (Int × Int)} {m d n : Nat} (hs : ∀ q ∈ s, 0 < q.2) (h1 : Bits m d s) (hd : d ≤ m) (ht : StepR 3 2 (n + 1) t) : Bits (3 + (m + 1) * n) (1 + d * n) (compQ s t) := by
  have tp : ∀ q ∈ t, 0 < q.2 := fun q hq => (ht.num q hq).low.1
  have tn : t ≠ [] := by intro z; have := ht.len; rw [z] at this; simp at this
  have hh := top_small ht.num
  have hm := headI_last tn
  have b := putI_bd (I := tops s) (B := (lcmL s : Int)) (head := headI t) (m := m) (c := 3) h1.top (by rw [Int.natAbs_natCast]; exact Nat.le_trans h1.bot (Nat.pow_le_pow_right (by decide) hd))
    (hh _ (by rw [← hm]; exact List.mem_append_right _ List.mem_cons_self)) (restI t) (fun z hz => hh z ((List.dropLast_sublist _).subset (List.mem_reverse.mp hz)))
  have lr : (restI t).length = n := by rw [restI_len, ht.len]; rfl
  rw [lr] at b
  refine ⟨Nat.le_trans (ov_nrm (compD_pos hs tp _) _) b.1, ?_⟩
  refine Nat.le_trans (Nat.le_of_dvd ?_ (ov_lcm (compD_pos hs tp _) _)) ?_
  · have := compD_pos hs tp (restI t)
    omega
  · have hl : lcmL t ≤ 2 ^ 1 := Nat.le_of_dvd (by decide) (lcm_two fun q hq => ⟨(numR_abs (ht.num q hq)).2.1, (numR_abs (ht.num q hq)).2.2⟩)
    rw [Int.natAbs_mul, putI_snd, lr, Int.natAbs_natCast, Int.natAbs_pow, Int.natAbs_natCast, Nat.pow_add, Nat.pow_mul]
    exact Nat.mul_le_mul hl (Nat.pow_le_pow_left h1.bot _)
/-- bits along a row of degrees -/
def nuL : Nat → Nat → List Nat → Nat × Nat
  | n, e, [] => (n, e)
  | n, e, d :: ds => nuL (4 + d * n) (1 + d * e) ds
theorem fold_bits : ∀ (rs : List (List (Int × Int))) {r : List (Int × Int)} {n e : Nat}, Stp r → Rows4 rs → Bits n e r → e ≤ n → Bits ((nuL (n + 1) e (rs.map fun s => s.length - 1)).1 - 1) (nuL (n + 1) e (rs.map fun s => s.length - 1)).2 (rs.foldl compQ r)
  | [], r, n, e, _, _, h, _ => h
  | s :: rs, r, n, e, hr, h4, h, he => by
    obtain ⟨k, k1, k2, hs⟩ := h4 s List.mem_cons_self
    have b := compQ_bits3 hr.pos h he hs
    have c := compQ_stp hr (stp_of hs (by omega))
    have i := fold_bits rs c (fun x hx => h4 x (List.mem_cons_of_mem _ hx)) b (by
      have : e * k ≤ n * k := Nat.mul_le_mul_right _ he
      rw [Nat.add_mul]
      omega)
    have ek : s.length - 1 = k := by rw [hs.len]; rfl
    show Bits ((nuL (4 + (s.length - 1) * (n + 1)) (1 + (s.length - 1) * e) _).1 - 1) (nuL (4 + (s.length - 1) * (n + 1)) (1 + (s.length - 1) * e) _).2 _
    rw [ek, Nat.mul_comm k, Nat.mul_comm k, show 4 + (n + 1) * k = 3 + (n + 1) * k + 1 by omega]
    exact i
theorem nu_le : ∀ ds : List Nat, ds.length ≤ 3 → (∀ d ∈ ds, 1 ≤ d ∧ d ≤ 4) → ds.foldl (· * ·) 1 ≤ 16 → (nuL 6 1 ds).1 ≤ 180 ∧ (nuL 6 1 ds).2 ≤ 37 := by
  have key : ∀ a b c : Fin 5, 1 ≤ a.val → 1 ≤ b.val → 1 ≤ c.val → a.val * b.val * c.val ≤ 16 → (nuL 6 1 [a.val, b.val, c.val]).1 ≤ 180 ∧ (nuL 6 1 [a.val, b.val, c.val]).2 ≤ 37 := by decide +kernel
  have key2 : ∀ a b : Fin 5, 1 ≤ a.val → 1 ≤ b.val → a.val * b.val ≤ 16 → (nuL 6 1 [a.val, b.val]).1 ≤ 180 ∧ (nuL 6 1 [a.val, b.val]).2 ≤ 37 := by decide +kernel
  have key1 : ∀ a : Fin 5, (nuL 6 1 [a.val]).1 ≤ 180 ∧ (nuL 6 1 [a.val]).2 ≤ 37 := by decide +kernel
  intro ds hl hd hp
  match ds, hl, hd, hp with
  | [], _, _, _ => exact ⟨by decide, by decide⟩
  | [a], _, hd, _ =>
    have h := hd a (by simp)
    exact key1 ⟨a, by omega⟩
  | [a, b], _, hd, hp =>
    have h1 := hd a (by simp)
    have h2 := hd b (by simp)
    have hp : 1 * a * b ≤ 16 := hp
    exact key2 ⟨a, by omega⟩ ⟨b, by omega⟩ h1.1 h2.1 (by rw [Nat.one_mul] at hp; exact hp)
  | [a, b, c], _, hd, hp =>
    have h1 := hd a (by simp)
    have h2 := hd b (by simp)
    have h3 := hd c (by simp)
    have hp : 1 * a * b * c ≤ 16 := hp
    exact key ⟨a, by omega⟩ ⟨b, by omega⟩ ⟨c, by omega⟩ h1.1 h2.1 h3.1 (by rw [Nat.one_mul] at hp; exact hp)
  | _ :: _ :: _ :: _ :: _, hl, _, _ => simp only [List.length_cons] at hl; omega
theorem degs_foldl : ∀ (rs : List (List (Int × Int))) (n : Nat), rs.foldl (fun n s => n * (s.length - 1)) n = n * (rs.map fun s => s.length - 1).foldl (· * ·) 1 := by
  have key : ∀ (l : List Nat) (n : Nat), l.foldl (· * ·) n = n * l.foldl (· * ·) 1 := by
    intro l
    induction l with
    | nil => intro n; show n = n * 1; omega
    | cons a l ih =>
      intro n
      show l.foldl (· * ·) (n * a) = n * l.foldl (· * ·) (1 * a)
      rw [ih (n * a), ih (1 * a), Nat.one_mul, Nat.mul_assoc]
  intro rs n
  have e : rs.foldl (fun n s => n * (s.length - 1)) n = (rs.map fun s => s.length - 1).foldl (· * ·) n := by rw [List.foldl_map]
  rw [e, key]
theorem Rows4.stp {rs : List (List (Int × Int))} (h : Rows4 rs) : ∀ s ∈ rs, Stp s := fun s hs => by
  obtain ⟨n, n1, n2, h⟩ := h s hs
  exact stp_of h (by omega)
theorem Rows4.lens {rs : List (List (Int × Int))} (h : Rows4 rs) : ∀ s ∈ rs, 2 ≤ s.length ∧ s.length ≤ 5 := fun s hs => by
  obtain ⟨n, n1, n2, h⟩ := h s hs
  have := h.len
  omega
theorem degs_pos {rs : List (List (Int × Int))} (h : Rows4 rs) : 1 ≤ degs rs := by
  induction rs with
  | nil => decide
  | cons s rs ih =>
    have e : degs (s :: rs) = degs [s] * degs rs := degs_append [s] rs
    rw [e]
    have h1 := h.lens s List.mem_cons_self
    have h2 := ih fun x hx => h x (List.mem_cons_of_mem _ hx)
    have h3 : degs [s] = s.length - 1 := Nat.one_mul _
    have := Nat.mul_le_mul (show 1 ≤ degs [s] by omega) h2
    omega
theorem Row16.ne {rs : List (List (Int × Int))} (h : Row16 rs) : rs ≠ [] := List.length_pos_iff.mp h.one
theorem row_bits {rs : List (List (Int × Int))} (h : Row16 rs) : Bits 179 37 (compRow rs) := by
  cases rs with
  | nil => exact absurd rfl h.ne
  | cons r rs =>
    obtain ⟨n, n1, n2, hr⟩ := h.step r List.mem_cons_self
    have h4 : Rows4 rs := fun x hx => h.step x (List.mem_cons_of_mem _ hx)
    have b := fold_bits rs (stp_of hr (by omega)) h4 (step_bits hr n2) (by decide)
    have hl := h.four
    have hd := h.deg
    have e : degs (r :: rs) = (r.length - 1) * (rs.map fun s => s.length - 1).foldl (· * ·) 1 := by
      show rs.foldl (fun n s => n * (s.length - 1)) (1 * (r.length - 1)) = _
      rw [Nat.one_mul, degs_foldl]
    rw [e] at hd
    have hp : (rs.map fun s => s.length - 1).foldl (· * ·) 1 ≤ 16 := by
      refine Nat.le_trans ?_ hd
      exact Nat.le_mul_of_pos_left _ (by rw [hr.len]; omega)
    obtain ⟨u1, u2⟩ := nu_le (rs.map fun s => s.length - 1) (by rw [List.length_map]; simp only [List.length_cons] at hl; omega) (fun d hd => by
      obtain ⟨s, hs, rfl⟩ := List.mem_map.mp hd
      have := h4.lens s hs
      omega) hp
    have b : Bits ((nuL 6 1 (rs.map fun s => s.length - 1)).1 - 1) (nuL 6 1 (rs.map fun s => s.length - 1)).2 (rs.foldl compQ r) := b
    exact ⟨Nat.le_trans b.top (Nat.pow_le_pow_right (by decide) (by omega)), Nat.le_trans b.bot (Nat.pow_le_pow_right (by decide) u2)⟩
theorem Row16.take {rs : List (List (Int × Int))} (h : Row16 rs) {j : Nat} (h1 : 1 ≤ j) : Row16 (rs.take j) := by
  have h0 := h.one
  have h4 : Rows4 (rs.take j) := fun x hx => h.step x (List.mem_of_mem_take hx)
  have h5 : Rows4 (rs.drop j) := fun x hx => h.step x (List.mem_of_mem_drop hx)
  refine ⟨by rw [List.length_take]; omega, by have := h.four; rw [List.length_take]; omega, h4, ?_⟩
  have e := degs_append (rs.take j) (rs.drop j)
  rw [List.take_append_drop] at e
  have := h.deg
  rw [e] at this
  exact Nat.le_trans (Nat.le_mul_of_pos_right _ (degs_pos h5)) this
theorem Row16.drop {rs : List (List (Int × Int))} (h : Row16 rs) {j : Nat} (h1 : j < rs.length) : Row16 (rs.drop j) := by
  have h4 : Rows4 (rs.take j) := fun x hx => h.step x (List.mem_of_mem_take hx)
  have h5 : Rows4 (rs.drop j) := fun x hx => h.step x (List.mem_of_mem_drop hx)
  refine ⟨by rw [List.length_drop]; omega, by have := h.four; rw [List.length_drop]; omega, h5, ?_⟩
  have e := degs_append (rs.take j) (rs.drop j)
  rw [List.take_append_drop] at e
  have := h.deg
  rw [e] at this
  exact Nat.le_trans (Nat.le_mul_of_pos_left _ (degs_pos h4)) this
theorem row_len {rs : List (List (Int × Int))} (h : Row16 rs) : (compRow rs).length = degs rs + 1 ∧ (compRow rs).length ≤ 17 ∧ Stp (compRow rs) := by
  obtain ⟨a, _, b⟩ := compRow_ok h.ne h.step.stp
  have := h.deg
  exact ⟨b, by omega, a⟩
theorem row_puts {rs : List (List (Int × Int))} (h : Row16 rs) : RowOk rs := by
  intro i s hs
  have ht := h.take (j := i + 1) (by omega)
  obtain ⟨l1, l2, l3⟩ := row_len ht
  obtain ⟨n, n1, n2, hr⟩ := h.step s (mem_of_get hs)
  have ls : s.length = n + 1 := hr.len
  have m1 : ((compRow (rs.take (i + 1))).length - 1) * (s.length - 1) ≤ 16 * 4 := Nat.mul_le_mul (by omega) (by omega)
  refine ⟨l3, stp_of hr (by omega), ⟨179, 37, 5, 1, row_bits ht, by decide, step_bits hr n2, ?_, ?_, ?_, ?_⟩, by omega⟩ <;> omega
theorem row_wins {rs : List (List (Int × Int))} (h : Row16 rs) : RowW rs := by
  intro i s hs
  have ht := h.take (j := i + 1) (by omega)
  obtain ⟨l1, l2, l3⟩ := row_len ht
  obtain ⟨n, n1, n2, hr⟩ := h.step s (mem_of_get hs)
  have ls : s.length = n + 1 := hr.len
  have m1 : ((compRow (rs.take (i + 1))).length - 1) * (s.length - 1) ≤ 16 * 4 := Nat.mul_le_mul (by omega) (by omega)
  refine ⟨l3, stp_of hr (by omega), ⟨179, 37, 5, 1, row_bits ht, by decide, step_bits hr n2, ?_, ?_⟩, by omega⟩ <;> omega
theorem okNum_of {q : Int × Int} {m d : Nat} (hl : Low q) (h1 : q.1.natAbs ≤ 2 ^ m) (h2 : q.2.natAbs ≤ 2 ^ d) (hm : m ≤ 199) (hd : d ≤ 199) : isNum (nD q) = true := by
  have P : ∀ {a : Nat}, a ≤ 199 → 2 ^ a ≤ 10 ^ 60 := fun {a} h => Nat.le_trans (Nat.pow_le_pow_right (by decide) h) (by decide)
  have a1 : q.1.natAbs ≤ 10 ^ 60 := Nat.le_trans h1 (P hm)
  have a2 : q.2.natAbs ≤ 10 ^ 60 := Nat.le_trans h2 (P hd)
  have a3 := hl.1
  show okNum q.1 q.2 = true
  unfold okNum
  simp only [Bool.and_eq_true, decide_eq_true_eq]
  exact ⟨by omega, by omega, by omega, by omega, hl.2⟩
theorem isStep_bits {s : List (Int × Int)} {m d : Nat} (h : Stp s) (hl : s.length ≤ 65) (b : Bits m d s) (hm : m ≤ 199) (hd : d ≤ 199) : isStep (sD s) = true := by
  have h2 := h.two
  have hall : (s.map nD).all isNum = true := by
    rw [List.all_eq_true]
    intro x hx
    obtain ⟨q, hq, rfl⟩ := List.mem_map.mp hx
    obtain ⟨b1, b2⟩ := bits_num h.pos b hq
    exact okNum_of (h.low q hq) b1 b2 hm hd
  unfold sD
  rw [isStep_tup, hall, decide_eq_true (by rw [List.length_map]; exact h2), decide_eq_true (by rw [List.length_map]; exact hl)]
  obtain ⟨q, hq⟩ := some_last (s := s) (by omega)
  rw [last_map hq, show (PyData.tuple [.int 0, .int 1]) = nD (0, 1) from rfl, eqvn]
  rw [decide_eq_false]
  · rfl
  · intro z
    exact h.tr q hq (by rw [z])
theorem row_good {rs : List (List (Int × Int))} (h : Row16 rs) : GoodRow rs := ⟨h.one, by have := h.four; omega, fun s hs => by
  obtain ⟨n, n1, n2, hr⟩ := h.step s hs
  exact isStep_bits (stp_of hr (by omega)) (by rw [hr.len]; omega) (step_bits hr n2) (by decide) (by decide)⟩
theorem row_whole_is {rs : List (List (Int × Int))} (h : Row16 rs) : isStep (sD (compRow rs)) = true := by
  obtain ⟨l1, l2, l3⟩ := row_len h
  exact isStep_bits l3 (by omega) (row_bits h) (by decide) (by decide)
theorem row_num {rs : List (List (Int × Int))} (h : Row16 rs) : ∀ q ∈ compRow rs, Bd 180 q := fun q hq => by
  obtain ⟨l1, l2, l3⟩ := row_len h
  obtain ⟨b1, b2⟩ := bits_num l3.pos (row_bits h) hq
  exact ⟨l3.pos q hq, Nat.lt_of_le_of_lt b1 (Nat.pow_lt_pow_right (by decide) (by decide)), Nat.lt_of_le_of_lt b2 (Nat.pow_lt_pow_right (by decide) (by decide))⟩
theorem bd_sh {n : Nat} {q : Int × Int} (h : Bd n q) (hn : n ≤ 1920) : Sh 3849 1 (nD q) := by
  have b := h.mono hn
  exact sh_num b.top b.bot
theorem row_sh {rs : List (List (Int × Int))} (h : Row16 rs) : Sh 70000 2 (sD (compRow rs)) := by
  obtain ⟨l1, l2, l3⟩ := row_len h
  refine (sh_step (m := 17) (fun q hq => ?_) l2).mono (by decide) (Nat.le_refl _)
  have b := (row_num h q hq).mono (n := 1920) (by decide)
  exact ⟨b.top, b.bot⟩
/-! ### values along a row -/
theorem alongV_whole {rs : List (List (Int × Int))} {x : Int × Int} (h : Row16 rs) (hx : Low x) (hb : Bd 3 x) : Low (alongV rs x) ∧ Bd 900 (alongV rs x) := by
  obtain ⟨l1, l2, l3⟩ := row_len h
  rw [← whole_value h.ne h.step.stp hx]
  refine ⟨valOf_low l3.pos hx.1, ?_⟩
  have f := fit_of l3.pos (row_bits h)
  refine (valOf_bd f l3.ne hb).mono ?_
  have e1 : (37 + 1) * (compRow rs).length ≤ 38 * 17 := Nat.mul_le_mul_left _ l2
  have e2 : (3 + 1) * (compRow rs).length ≤ 4 * 17 := Nat.mul_le_mul_left _ l2
  omega
theorem along_bd {rs : List (List (Int × Int))} {x : Int × Int} (h : Row16 rs) (hx : Low x) (hb : Bd 3 x) (i : Nat) : Low (alongV (rs.take i) x) ∧ Bd 900 (alongV (rs.take i) x) := by
  cases i with
  | zero => exact ⟨hx, hb.mono (by decide)⟩
  | succ i => exact alongV_whole (h.take (by omega)) hx hb
theorem row_val {rs : List (List (Int × Int))} {x : Int × Int} (h : Row16 rs) (hx : Low x) (hb : Bd 3 x) : ValOk rs x := by
  intro i s hs
  obtain ⟨n, n1, n2, hr⟩ := h.step s (mem_of_get hs)
  have ls : s.length = n + 1 := hr.len
  obtain ⟨a1, a2⟩ := along_bd h hx hb i
  refine ⟨2, 2, 900, stepR_fit hr (by decide) (by decide), (stp_of hr (by omega)).ne, a2.pos, a2.top, a2.bot, by omega, by omega⟩
/-! ### heads along a row -/
def powM (h : Int × Int) (k : Nat) : Int × Int := (List.range k).foldl (fun r _ => qmul r h) (1, 1)
theorem powM_succ (h : Int × Int) (k : Nat) : powM h (k + 1) = qmul (powM h k) h := by
  unfold powM
  rw [List.range_succ, List.foldl_append]
  rfl
theorem pow_mul {h : Int × Int} (hh : 0 < h.2) : ∀ k : Nat, Low (powM h k) ∧ val (powM h k) = val h ^ k
  | 0 => ⟨low_1, by rw [Rat.pow_zero]; show val (1, 1) = 1; unfold val; simp; grind⟩
  | k + 1 => by
    obtain ⟨i1, i2⟩ := pow_mul hh k
    rw [powM_succ]
    refine ⟨qmul_low i1.1 hh, ?_⟩
    show val (qmul (powM h k) h) = _
    rw [qmul_val i1.1 hh, i2, Rat.pow_succ]
theorem powM_bd {h : Int × Int} {n : Nat} (hh : Bd n h) : ∀ k, Bd (1 + k * n) (powM h k)
  | 0 => ⟨by show (0 : Int) < 1; decide, by show 1 < 2 ^ (1 + 0 * n); simp, by show 1 < 2 ^ (1 + 0 * n); simp⟩
  | k + 1 => by
    rw [powM_succ]
    refine (qmul_bd (powM_bd hh k) hh).mono ?_
    rw [Nat.add_mul]
    omega
theorem head_more {rs : List (List (Int × Int))} {i : Nat} {s : List (Int × Int)} {h q : Int × Int} (R : Rows4 rs) (hs : rs[i + 1]? = some s) (hh : (compRow (rs.take (i + 1))).getLast? = some h) (hq : s.getLast? = some q) :
    (compRow (rs.take (i + 2))).getLast? = some (qmul q (powM h (s.length - 1))) := by
  have hne : rs.take (i + 1) ≠ [] := by
    intro z
    have := (List.getElem?_eq_some_iff.mp hs).1
    have h2 : (rs.take (i + 1)).length = 0 := by rw [z]; rfl
    rw [List.length_take] at h2
    omega
  obtain ⟨c, _, _⟩ := compRow_ok hne fun x hx => R.stp x (List.mem_of_mem_take hx)
  have st := R.stp s (mem_of_get hs)
  have c2 := c.two
  have s2 := st.two
  rw [compRow_more hs]
  obtain ⟨r, e1, e2, e3⟩ := compQ_head (n := (compRow (rs.take (i + 1))).length - 2) (k := s.length - 1) c.pos st.pos (by omega) (by omega)
  rw [e1]
  have eh : (compRow (rs.take (i + 1)))[(compRow (rs.take (i + 1))).length - 2 + 1]'(by omega) = h := by
    rw [last_get (n := (compRow (rs.take (i + 1))).length - 2 + 1) (by omega)] at hh
    exact Option.some.inj hh
  have eq : s[s.length - 1]'(by omega) = q := by
    rw [last_get (n := s.length - 1) (by omega)] at hq
    exact Option.some.inj hq
  rw [eh, eq] at e3
  have hp : 0 < h.2 := by rw [← eh]; exact c.pos _ (List.getElem_mem _)
  have qp : 0 < q.2 := by rw [← eq]; exact st.pos _ (List.getElem_mem _)
  obtain ⟨p1, p2⟩ := pow_mul hp (s.length - 1)
  have e4 : r = qmul q (powM h (s.length - 1)) := low_eq e2 (qmul_low qp p1.1) (by
    rw [e3, qmul_val qp p1.1, p2])
  rw [e4]
/-! ### both parts of a row -/
theorem both_row {rs : List (List (Int × Int))} (h : Row16 rs) {j : Nat} (h1 : 1 ≤ j) (h2 : j < rs.length) : compRow [compRow (rs.take j), compRow (rs.drop j)] = compRow rs ∧ GoodRow [compRow (rs.take j), compRow (rs.drop j)] ∧
    degs [compRow (rs.take j), compRow (rs.drop j)] ≤ 256 ∧ RowOk [compRow (rs.take j), compRow (rs.drop j)] := by
  have ha := h.take h1
  have hb := h.drop h2
  obtain ⟨a1, a2, a3⟩ := row_len ha
  obtain ⟨b1, b2, b3⟩ := row_len hb
  have da := ha.deg
  have db := hb.deg
  refine ⟨?_, ⟨by simp, by simp, fun s hs => ?_⟩, ?_, fun i s hs => ?_⟩
  · show compQ (compRow (rs.take j)) (compRow (rs.drop j)) = _
    rw [compRow_cut ha.ne hb.ne ha.step.stp hb.step.stp, List.take_append_drop]
  · simp only [List.mem_cons, List.not_mem_nil, or_false] at hs
    rcases hs with z | z
    · rw [z]; exact row_whole_is ha
    · rw [z]; exact row_whole_is hb
  · show 1 * ((compRow (rs.take j)).length - 1) * ((compRow (rs.drop j)).length - 1) ≤ 256
    rw [Nat.one_mul]
    exact Nat.mul_le_mul (show (compRow (rs.take j)).length - 1 ≤ 16 by omega) (show (compRow (rs.drop j)).length - 1 ≤ 16 by omega)
  · cases i with
    | zero =>
      have e : s = compRow (rs.drop j) := (Option.some.inj hs).symm
      subst e
      show PutOk (compRow (rs.take j)) _
      have m1 : ((compRow (rs.take j)).length - 1) * ((compRow (rs.drop j)).length - 1) ≤ 16 * 16 := Nat.mul_le_mul (by omega) (by omega)
      refine ⟨a3, b3, ⟨179, 37, 179, 37, row_bits ha, by decide, row_bits hb, ?_, ?_, ?_, ?_⟩, by omega⟩ <;> omega
    | succ i => cases hs
end My

set_option Elab.async false
set_option linter.all false
set_option maxRecDepth 100000
set_option maxHeartbeats 4000000
set_option exponentiation.threshold 20000
namespace My
open PySem PySem.Spec PyProof.Rows L2 StX
/-! ### fractions with any lower part -/
def CDivNW (_ j : Int) : Prop := j ≠ 0 ∧ j.natAbs.log2 < 9000
theorem op_fdivNW {X : Cx} : OpR X (binaryOp .FloorDiv) (rI CDivNW fun i j => .int (i.fdiv j)) := opI fun i j _ _ _ _ _ hc q => floordiv_int hc.1 q (.inl (PyProof.noPylong_of_log2 hc.2))
def frN (a b : Int) : Int × Int := if b < 0 then fr (-a) (-b) else fr a b
theorem fdiv_pos {a g : Int} (h : 0 < g) (d : g ∣ a) : a.fdiv g = a / g := Int.fdiv_eq_ediv_of_dvd d
theorem fdiv_neg {a g : Int} (d : g ∣ a) : a.fdiv (-g) = (-a) / g := by
  rw [Int.fdiv_eq_ediv_of_dvd (Int.neg_dvd.mpr d), Int.ediv_neg, Int.neg_ediv_of_dvd d]
theorem gc_neg (a b : Int) : gc (-a) (-b) = gc a b := by unfold gc; rw [Int.natAbs_neg, Int.natAbs_neg]
theorem frN_neg {a b : Int} (h : b < 0) : frN a b = (a.fdiv (-(gc a b)), b.fdiv (-(gc a b))) := by
  unfold frN
  rw [if_pos h, fdiv_neg (gc_dl a b), fdiv_neg (gc_dr a b)]
  unfold fr
  rw [gc_neg]
theorem gc_pos' {a b : Int} (h : b ≠ 0) : 0 < gc a b := by
  have : 0 < Nat.gcd a.natAbs b.natAbs := Nat.gcd_pos_of_pos_right _ (by omega)
  show (0 : Int) < ((Nat.gcd a.natAbs b.natAbs : Nat) : Int)
  omega
theorem gc_le' {a b : Int} (h : b ≠ 0) : (gc a b).natAbs ≤ b.natAbs := by
  show (((Nat.gcd a.natAbs b.natAbs : Nat) : Int)).natAbs ≤ _
  rw [Int.natAbs_natCast]
  exact Nat.le_of_dvd (by omega) (Nat.gcd_dvd_right _ _)
theorem frN_pos {a b : Int} (h : 0 < b) : frN a b = (a.fdiv (gc a b), b.fdiv (gc a b)) := by
  unfold frN
  rw [if_neg (by omega), fdiv_pos (gc_pos h) (gc_dl a b), fdiv_pos (gc_pos h) (gc_dr a b)]
  rfl
theorem frN_low {a b : Int} (h : b ≠ 0) : Low (frN a b) := by
  unfold frN
  by_cases z : b < 0
  · rw [if_pos z]; exact fr_low (by omega)
  · rw [if_neg z]; exact fr_low (by omega)
theorem frN_val {a b : Int} (h : b ≠ 0) : val (frN a b) = (a : Rat) / (b : Rat) := by
  unfold frN
  by_cases z : b < 0
  · rw [if_pos z, fr_val (by omega)]
    simp only [Rat.intCast_neg]
    have : (b : Rat) ≠ 0 := by simpa using h
    grind
  · rw [if_neg z, fr_val (by omega)]
theorem frN_bd {a b : Int} {n : Nat} (h : b ≠ 0) (h1 : a.natAbs < 2 ^ n) (h2 : b.natAbs < 2 ^ n) : (frN a b).1.natAbs < 2 ^ n ∧ (frN a b).2.natAbs < 2 ^ n := by
  unfold frN
  by_cases z : b < 0
  · rw [if_pos z]
    exact ⟨Nat.lt_of_le_of_lt (natAbs_div_le _ _) (by rw [Int.natAbs_neg]; exact h1), Nat.lt_of_le_of_lt (natAbs_div_le _ _) (by rw [Int.natAbs_neg]; exact h2)⟩
  · rw [if_neg z]
    exact ⟨Nat.lt_of_le_of_lt (natAbs_div_le _ _) h1, Nat.lt_of_le_of_lt (natAbs_div_le _ _) h2⟩
def letS : List (Int × Int) := [(0, 1), (1, 1)]
section
variable {P : Program} {w : World} {K : PySem.W.Frag} {mg : Str → Option Value} {base : Heap} {t1 t2 t3 : Tok} {f : Addr} {fd : FuncData} {ad : Ads}
def sp_fraction2 (K : PySem.W.Frag) : Sp := fun vs H Q _ => ∃ (N : List Addr) (a b : Int), vs = [.int a, .int b] ∧ Live N H ∧ b ≠ 0 ∧ b.natAbs.log2 < 9000 ∧ Told K N H (nD (frN a b)) Q
def sp_opposite (K : PySem.W.Frag) : Sp := fun vs H Q _ => ∃ (N : List Addr) (v : V) (q : Int × Int), vs = [v] ∧ Live N H ∧ Dp K (cut N H) v (nD q) ∧ Told K N H (nD (-q.1, q.2)) Q
def quoQ (p q : Int × Int) : Int × Int := frN (p.1 * q.2) (p.2 * q.1)
def sp_quotient_of (K : PySem.W.Frag) : Sp := fun vs H Q _ => ∃ (N : List Addr) (v u : V) (p q : Int × Int) (n : Nat), vs = [v, u] ∧ Live N H ∧ Dp K (cut N H) v (nD p) ∧ Dp K (cut N H) u (nD q) ∧ Bd n p ∧ Bd n q ∧ n ≤ 4000 ∧ q.1 ≠ 0 ∧ Told K N H (nD (quoQ p q)) Q
/-- the straight step that undoes a straight one -/
def backQ (s : List (Int × Int)) : List (Int × Int) := match s with
  | [l, h] => [(-(quoQ l h).1, (quoQ l h).2), quoQ (1, 1) h]
  | _ => []
def sp_straight_back (ad : Ads) (K : PySem.W.Frag) : Sp := fun vs H Q E => ∃ (N : List Addr) (v : V) (x y : Int × Int) (n : Nat), vs = [v] ∧ Live N H ∧ Dp K (cut N H) v (sD [x, y]) ∧ isStep (sD [x, y]) = true ∧ Bd n x ∧ Bd n y ∧ n ≤ 3999 ∧ y.1 ≠ 0 ∧ Told K N H (sD (backQ [x, y])) Q
/-! ### rows that are lists -/
def sp_product_of_degrees2 (K : PySem.W.Frag) : Sp := fun vs H Q _ => ∃ (v : V) (rs : List (List (Int × Int))), vs = [v] ∧ Dp K H v (.list (rs.map sD)) ∧ (∀ s ∈ rs, 1 ≤ s.length ∧ s.length ≤ 65) ∧ rs.length ≤ 100 ∧ Q (.int (degs rs : Nat)) H
def sp_refuse_great2 (ad : Ads) (K : PySem.W.Frag) : Sp := fun vs H Q E => ∃ (N : List Addr) (v : V) (rs : List (List (Int × Int))), vs = [v] ∧ Live N H ∧ Dp K (cut N H) v (.list (rs.map sD)) ∧ (∀ s ∈ rs, 1 ≤ s.length ∧ s.length ≤ 65) ∧ rs.length ≤ 100 ∧
  (256 < degs rs → ToldX K ad N H (.er .grt (.int 256)) Q E) ∧ (degs rs ≤ 256 → Q .non H)
def sp_whole_of2 (K : PySem.W.Frag) : Sp := fun vs H Q _ => ∃ (N : List Addr) (v : V) (rs : List (List (Int × Int))), vs = [v] ∧ Live N H ∧ Dp K (cut N H) v (.list (rs.map sD)) ∧ 1 ≤ rs.length ∧ RowOk rs ∧ Told K N H (sD (compRow rs)) Q
/-! ### a step done again -/
def timesOk (e : PyData) : Bool := match e with
  | .int n => decide (0 ≤ n ∧ n ≤ 60)
  | _ => false
theorem degs_rep (s : List (Int × Int)) : ∀ n, degs (List.replicate n s) = (s.length - 1) ^ n
  | 0 => rfl
  | n + 1 => by
    have e : List.replicate (n + 1) s = List.replicate n s ++ [s] := by rw [List.replicate_succ']
    rw [e]
    unfold degs
    rw [List.foldl_append]
    show degs (List.replicate n s) * (s.length - 1) = _
    rw [degs_rep s n, Nat.pow_succ]
def againR (s : List (Int × Int)) (n : Nat) : List (List (Int × Int)) := letS :: List.replicate n s
def againQ (s : List (Int × Int)) (n : Nat) : List (Int × Int) := compRow (againR s n)
end
end My

set_option Elab.async false
set_option linter.all false
set_option maxRecDepth 100000
set_option maxHeartbeats 4000000
set_option exponentiation.threshold 20000
namespace My
open PySem PySem.Spec PyProof.Rows L2
/-! ### steps with their bits and degree -/
structure Zs (m d n : Nat) (s : List (Int × Int)) : Prop where
  stp : Stp s
  bits : Bits m d s
  len : s.length = n + 1
theorem Zs.mono {m d n m' d' : Nat} {s : List (Int × Int)} (h : Zs m d n s) (h1 : m ≤ m') (h2 : d ≤ d') : Zs m' d' n s :=
  ⟨h.stp, ⟨Nat.le_trans h.bits.top (Nat.pow_le_pow_right (by decide) h1), Nat.le_trans h.bits.bot (Nat.pow_le_pow_right (by decide) h2)⟩, h.len⟩
theorem Zs.to {m d n m' d' n' : Nat} {s : List (Int × Int)} (h : Zs m d n s) (h1 : m ≤ m') (h2 : d ≤ d') (h3 : n = n') : Zs m' d' n' s := h3 ▸ h.mono h1 h2
theorem Zs.comp {m d n c e k : Nat} {s t : List (Int × Int)} (h : Zs m d n s) (hd : d ≤ m) (g : Zs c e k t) : Zs (c + (m + 1) * k) (e + d * k) (n * k) (compQ s t) := by
  have b := compQ_bits h.stp.pos g.stp.pos g.stp.ne h.bits hd g.bits
  rw [g.len, Nat.add_sub_cancel] at b
  exact ⟨compQ_stp h.stp g.stp, b, compQ_len h.len g.len⟩
theorem Zs.put {m d n c e k : Nat} {s t : List (Int × Int)} (h : Zs m d n s) (hd : d ≤ m) (g : Zs c e k t) (h1 : m + d + 2 + (d + 1) * (n + 1) ≤ 7000) (h2 : c + e + 2 + (e + 1) * (k + 1) ≤ 7000) (h3 : c + (m + 1) * (k + 1) ≤ 300000)
    (h4 : e + d * (k + 1) + 2 ≤ 8900) (h5 : n * k + 1 + (n + 1) + (k + 1) ≤ 900) : PutOk s t := by
  refine ⟨h.stp, g.stp, ⟨m, d, c, e, h.bits, hd, g.bits, ?_, ?_, ?_, ?_⟩, ?_⟩
  · rw [h.len]; exact h1
  · rw [g.len]; exact h2
  · rw [g.len]; exact h3
  · rw [g.len]; exact h4
  · rw [h.len, g.len, Nat.add_sub_cancel, Nat.add_sub_cancel]; exact h5
theorem Zs.win {m d n c e k : Nat} {s t : List (Int × Int)} (h : Zs m d n s) (hd : d ≤ m) (g : Zs c e k t) (h3 : c + (m + 1) * (k + 1) ≤ 2400) (h4 : e + d * (k + 1) ≤ 2400) (h5 : n * k + 1 + (n + 1) + (k + 1) ≤ 290) : WinOk s t := by
  refine ⟨h.stp, g.stp, ⟨m, d, c, e, h.bits, hd, g.bits, ?_, ?_⟩, ?_⟩
  · rw [g.len]; exact h3
  · rw [g.len]; exact h4
  · rw [h.len, g.len, Nat.add_sub_cancel, Nat.add_sub_cancel]; exact h5
theorem Zs.is {m d n : Nat} {s : List (Int × Int)} (h : Zs m d n s) (h1 : m ≤ 199) (h2 : d ≤ 199) (h3 : n ≤ 64) : isStep (sD s) = true := isStep_bits h.stp (by rw [h.len]; omega) h.bits h1 h2
theorem Zs.num {m d n : Nat} {s : List (Int × Int)} (h : Zs m d n s) : ∀ q ∈ s, Bd (m + d + 1) q := fun q hq => by
  obtain ⟨b1, b2⟩ := bits_num h.stp.pos h.bits hq
  exact ⟨h.stp.pos q hq, Nat.lt_of_le_of_lt b1 (Nat.pow_lt_pow_right (by decide) (by omega)), Nat.lt_of_le_of_lt b2 (Nat.pow_lt_pow_right (by decide) (by omega))⟩
theorem Zs.sh {m d n : Nat} {s : List (Int × Int)} (h : Zs m d n s) (h1 : m + d + 1 ≤ 1920) (h2 : n ≤ 100) : Sh 1000000 60 (sD s) := by
  refine (sh_step (m := 101) (fun q hq => ?_) (by rw [h.len]; omega)).mono (by decide) (by decide)
  have b := (h.num q hq).mono h1
  exact ⟨b.top, b.bot⟩
theorem z_let : Zs 0 0 1 letS := ⟨⟨fun q hq => by rcases List.mem_cons.mp hq with z | z; rw [z]; exact low_0; rw [List.mem_singleton.mp z]; exact low_1, by decide, fun q hq => by cases hq; decide⟩, ⟨by decide, by decide⟩, rfl⟩
theorem rep_succ (s : List (Int × Int)) (n : Nat) : List.replicate (n + 1) s = List.replicate n s ++ [s] := List.replicate_succ'
theorem againQ_zero (s : List (Int × Int)) : againQ s 0 = letS := rfl
theorem againQ_succ (s : List (Int × Int)) (n : Nat) : againQ s (n + 1) = compQ (againQ s n) s := by
  unfold againQ againR
  rw [rep_succ]
  show (List.replicate n s ++ [s]).foldl compQ letS = _
  rw [List.foldl_append]
  rfl
theorem again_put {s : List (Int × Int)} {n : Nat} (h : ∀ i, i < n → PutOk (againQ s i) s) : RowOk (againR s n) := by
  intro i t ht
  have ht : (List.replicate n s)[i]? = some t := ht
  obtain ⟨h1, h2⟩ := List.getElem?_eq_some_iff.mp ht
  rw [List.length_replicate] at h1
  rw [List.getElem_replicate] at h2
  subst h2
  have e : (againR s n).take (i + 1) = againR s i := by
    unfold againR
    rw [List.take_succ_cons, List.take_replicate, Nat.min_eq_left (by omega)]
  rw [e]
  exact h i h1
/-! ### values of steps done again -/
theorem let_val (x : Rat) : pval (letS.map val) x = x := by
  show val (0, 1) + x * (val (1, 1) + x * 0) = x
  rw [val_01, val_11]
  grind
theorem againR_stp {s : List (Int × Int)} (h : Stp s) (n : Nat) : ∀ t ∈ againR s n, Stp t := fun t ht => by
  rcases List.mem_cons.mp ht with z | z
  · rw [z]; exact z_let.stp
  · rw [(List.mem_replicate.mp z).2]; exact h
theorem againQ_ok {s : List (Int × Int)} (h : Stp s) (n : Nat) : Stp (againQ s n) ∧ ∀ x, pval ((againQ s n).map val) x = pvals (List.replicate n s) x := by
  obtain ⟨a, b, _⟩ := compRow_ok (rs := againR s n) (by unfold againR; simp) (againR_stp h n)
  refine ⟨a, fun x => ?_⟩
  show pval ((compRow (againR s n)).map val) x = _
  rw [b]
  show pvals (List.replicate n s) (pval (letS.map val) x) = _
  rw [let_val]
theorem again_add {s : List (Int × Int)} (h : Stp s) (a b : Nat) : compQ (againQ s a) (againQ s b) = againQ s (a + b) := by
  obtain ⟨a1, a2⟩ := againQ_ok h a
  obtain ⟨b1, b2⟩ := againQ_ok h b
  obtain ⟨c1, c2⟩ := againQ_ok h (a + b)
  have d := compQ_stp a1 b1
  refine canon d.low c1.low d.tr c1.tr fun x => ?_
  rw [compQ_val a1.pos a1.ne b1.pos b1.ne, a2, b2, c2, ← List.replicate_append_replicate]
  unfold pvals
  rw [List.foldl_append]
theorem again_twice {s : List (Int × Int)} (h : Stp s) : againQ (againQ s 2) 2 = againQ s 4 := by
  obtain ⟨a1, a2⟩ := againQ_ok h 2
  obtain ⟨b1, b2⟩ := againQ_ok a1 2
  obtain ⟨c1, c2⟩ := againQ_ok h 4
  refine canon b1.low c1.low b1.tr c1.tr fun x => ?_
  rw [b2, c2]
  show pval ((againQ s 2).map val) (pval ((againQ s 2).map val) x) = _
  rw [a2, a2]
  rfl
/-! ### drawn steps done again -/
def mo (k : Nat) : Nat := if k = 2 then 4 else 2
theorem numR_up {wd wd' bl : Int} {n : Nat} {s : List (Int × Int)} (h : StepR wd bl n s) (hw : wd ≤ wd') : StepR wd' bl n s := ⟨h.len, fun q hq => ⟨(h.num q hq).low, by have := (h.num q hq).lo; omega, by have := (h.num q hq).hi; omega, (h.num q hq).bot⟩, h.head⟩
theorem z_told {k : Nat} {s : List (Int × Int)} (h : StepR 2 2 (k + 1) s) (h1 : 1 ≤ k) (h2 : k ≤ 4) : Zs 5 1 k s :=
  ⟨stp_of h (by omega), step_bits (numR_up h (by decide)) h2, h.len⟩
theorem z_again {k n : Nat} {s : List (Int × Int)} (Z : Zs 5 1 k s) (hk : k = 2 ∨ k = 3 ∨ k = 4) (hn : n ≤ mo k) : Zs 105 15 (k ^ n) (againQ s n) ∧ k ^ n ≤ 16 := by
  have a0 : Zs 0 0 1 (againQ s 0) := z_let
  have a1 := a0.comp (by omega) Z
  rw [← againQ_succ] at a1
  have a2 := a1.comp (by rcases hk with z | z | z <;> (subst z; decide)) Z
  rw [← againQ_succ] at a2
  rcases hk with z | z | z
  · subst z
    have a3 := a2.comp (by decide) Z
    rw [← againQ_succ] at a3
    have a4 := a3.comp (by decide) Z
    rw [← againQ_succ] at a4
    match n, hn with
    | 0, _ => exact ⟨a0.to (by decide) (by decide) (by decide), by decide⟩
    | 1, _ => exact ⟨a1.to (by decide) (by decide) (by decide), by decide⟩
    | 2, _ => exact ⟨a2.to (by decide) (by decide) (by decide), by decide⟩
    | 3, _ => exact ⟨a3.to (by decide) (by decide) (by decide), by decide⟩
    | 4, _ => exact ⟨a4.to (by decide) (by decide) (by decide), by decide⟩
    | n + 5, h => exact absurd h (by have e : mo 2 = 4 := rfl; omega)
  all_goals
    subst z
    have e3 : mo 3 = 2 := rfl
    have e4 : mo 4 = 2 := rfl
    match n, hn with
    | 0, _ => exact ⟨a0.to (by decide) (by decide) (by decide), by decide⟩
    | 1, _ => exact ⟨a1.to (by decide) (by decide) (by decide), by decide⟩
    | 2, _ => exact ⟨a2.to (by decide) (by decide) (by decide), by decide⟩
    | n + 3, h => exact absurd h (by omega)
theorem told_win {k n : Nat} {s : List (Int × Int)} (Z : Zs 5 1 k s) (hk : k = 2 ∨ k = 3 ∨ k = 4) (hn : n ≤ mo k) : WinOk (againQ s n) s := by
  obtain ⟨z, h⟩ := z_again Z hk hn
  have : k ^ n * k ≤ 16 * 4 := Nat.mul_le_mul h (by omega)
  exact z.win (by decide) Z (by omega) (by omega) (by omega)
theorem told_puts {k n : Nat} {s : List (Int × Int)} (Z : Zs 5 1 k s) (hk : k = 2 ∨ k = 3 ∨ k = 4) (hn : n ≤ mo k) : RowOk (againR s n) := again_put fun i hi => by
  obtain ⟨z, h⟩ := z_again Z hk (show i ≤ mo k by omega)
  have : k ^ i * k ≤ 16 * 4 := Nat.mul_le_mul h (by omega)
  exact z.put (by decide) Z (by omega) (by omega) (by omega) (by omega) (by omega)
theorem told_both {k a b : Nat} {s : List (Int × Int)} (Z : Zs 5 1 k s) (hk : k = 2 ∨ k = 3 ∨ k = 4) (ha : a ≤ mo k) (hb : b ≤ mo k) :
    GoodRow [againQ s a, againQ s b] ∧ degs [againQ s a, againQ s b] ≤ 256 ∧ RowOk [againQ s a, againQ s b] ∧ compRow [againQ s a, againQ s b] = againQ s (a + b) := by
  obtain ⟨x, x1⟩ := z_again Z hk ha
  obtain ⟨y, y1⟩ := z_again Z hk hb
  refine ⟨⟨by simp, by simp, fun t ht => ?_⟩, ?_, fun i t ht => ?_, again_add Z.stp a b⟩
  · simp only [List.mem_cons, List.not_mem_nil, or_false] at ht
    rcases ht with z | z
    · rw [z]; exact x.is (by decide) (by decide) (by omega)
    · rw [z]; exact y.is (by decide) (by decide) (by omega)
  · show 1 * ((againQ s a).length - 1) * ((againQ s b).length - 1) ≤ 256
    rw [Nat.one_mul, x.len, y.len]
    exact Nat.mul_le_mul x1 y1
  · cases i with
    | zero =>
      have e : t = againQ s b := (Option.some.inj ht).symm
      subst e
      have : k ^ a * k ^ b ≤ 16 * 16 := Nat.mul_le_mul x1 y1
      exact x.put (by decide) y (by omega) (by omega) (by omega) (by omega) (by omega)
    | succ i => cases ht
theorem told_four {s : List (Int × Int)} (Z : Zs 5 1 2 s) : isStep (sD (againQ s 2)) = true ∧ ((againQ s 2).length - 1) ^ 2 ≤ 256 ∧ RowOk (againR (againQ s 2) 2) ∧ againQ (againQ s 2) 2 = againQ s 4 := by
  obtain ⟨x, _⟩ := z_again (n := 2) Z (.inl rfl) (by decide)
  have a0 : Zs 0 0 1 (againQ (againQ s 2) 0) := z_let
  have a1 := a0.comp (by omega) x
  rw [← againQ_succ] at a1
  refine ⟨x.is (by decide) (by decide) (by decide), by rw [x.len]; decide, again_put fun i hi => ?_, again_twice Z.stp⟩
  match i, hi with
  | 0, _ => exact a0.put (by decide) x (by decide) (by decide) (by decide) (by decide) (by decide)
  | 1, _ => exact a1.put (by decide) x (by decide) (by decide) (by decide) (by decide) (by decide)
  | n + 2, h => exact absurd h (by omega)
/-! ### straight steps -/
theorem z_two {x y : Int × Int} {a : Nat} (hx : Low x) (hy : Low y) (hy0 : y.1 ≠ 0) (h1 : x.1.natAbs ≤ 2 ^ a) (h2 : x.2.natAbs ≤ 2 ^ a) (h3 : y.1.natAbs ≤ 2 ^ a) (h4 : y.2.natAbs ≤ 2 ^ a) : Zs (3 * a + 1) (2 * a) 1 [x, y] := by
  have e : lcmL [x, y] = Nat.lcm (Nat.lcm 1 x.2.natAbs) y.2.natAbs := rfl
  have hl : lcmL [x, y] ≤ 2 ^ (2 * a) := by
    rw [e]
    refine Nat.le_trans (lcm_le _ _) ?_
    have h5 := Nat.le_trans (lcm_le 1 x.2.natAbs) (by rw [Nat.one_mul]; exact h2)
    rw [show 2 * a = a + a by omega, Nat.pow_add]
    exact Nat.mul_le_mul h5 h4
  refine ⟨⟨fun q hq => ?_, by simp, fun q hq => ?_⟩, ⟨?_, hl⟩, rfl⟩
  · simp only [List.mem_cons, List.not_mem_nil, or_false] at hq
    rcases hq with z | z
    · rw [z]; exact hx
    · rw [z]; exact hy
  · cases hq
    exact hy0
  · have ht : ∀ z ∈ tops [x, y], z.natAbs ≤ 2 ^ (3 * a) := by
      intro z hz
      obtain ⟨q, hq, rfl⟩ := List.mem_map.mp hz
      have h5 : q.1.natAbs ≤ 2 ^ a := by
        simp only [List.mem_cons, List.not_mem_nil, or_false] at hq
        rcases hq with z | z
        · rw [z]; exact h1
        · rw [z]; exact h3
      rw [Int.natAbs_mul, show 3 * a = a + 2 * a by omega, Nat.pow_add]
      exact Nat.mul_le_mul h5 (Nat.le_trans (natAbs_div_le _ _) (by rw [Int.natAbs_natCast]; exact hl))
    refine Nat.le_trans (nrm_len ht) ?_
    rw [tops_len, Nat.pow_succ]
    show 2 * _ ≤ _
    omega
theorem quo_low {p q : Int × Int} (hp : 0 < p.2) (hq : q.1 ≠ 0) : Low (quoQ p q) := frN_low (by
  intro z
  rcases Int.mul_eq_zero.mp z with y | y
  · omega
  · exact hq y)
theorem quo_val {p q : Int × Int} (hp : 0 < p.2) (hq : 0 < q.2) (hn : q.1 ≠ 0) : val (quoQ p q) = val p / val q := by
  unfold quoQ
  rw [frN_val (by
    intro z
    rcases Int.mul_eq_zero.mp z with y | y
    · omega
    · exact hn y)]
  have r1 := rat_ne hp
  have r2 := rat_ne hq
  have r3 : (q.1 : Rat) ≠ 0 := by simpa using hn
  simp only [Rat.intCast_mul]
  unfold val
  grind
theorem neg_low {q : Int × Int} (h : Low q) : Low (-q.1, q.2) := ⟨h.1, by show gc (-q.1) q.2 = 1; unfold gc; rw [Int.natAbs_neg]; exact h.2⟩
theorem neg_val (q : Int × Int) : val (-q.1, q.2) = -val q := by
  unfold val
  simp only [Rat.intCast_neg]
  grind
theorem frN_le {a b : Int} {n : Nat} (h1 : a.natAbs ≤ n) (h2 : b.natAbs ≤ n) : (frN a b).1.natAbs ≤ n ∧ (frN a b).2.natAbs ≤ n := by
  unfold frN
  by_cases z : b < 0
  · rw [if_pos z]
    exact ⟨Nat.le_trans (natAbs_div_le _ _) (by rw [Int.natAbs_neg]; exact h1), Nat.le_trans (natAbs_div_le _ _) (by rw [Int.natAbs_neg]; exact h2)⟩
  · rw [if_neg z]
    exact ⟨Nat.le_trans (natAbs_div_le _ _) h1, Nat.le_trans (natAbs_div_le _ _) h2⟩
theorem mul_le16 {a b : Int} (h1 : a.natAbs ≤ 4) (h2 : b.natAbs ≤ 4) : (a * b).natAbs ≤ 2 ^ 4 := by
  rw [Int.natAbs_mul]
  have := Nat.mul_le_mul h1 h2
  omega
structure Lin (x y : Int × Int) : Prop where
  lx : Low x
  ly : Low y
  ne : y.1 ≠ 0
  x1 : x.1.natAbs ≤ 4
  x2 : x.2.natAbs ≤ 4
  y1 : y.1.natAbs ≤ 4
  y2 : y.2.natAbs ≤ 4
theorem lin_of {s : List (Int × Int)} (h : StepR 4 3 2 s) : ∃ x y, s = [x, y] ∧ Lin x y := by
  have hl := h.len
  match s, hl, h with
  | [x, y], _, h =>
    have hx := h.num x (by simp)
    have hy := h.num y (by simp)
    have := hx.lo
    have := hx.hi
    have := hy.lo
    have := hy.hi
    have := hx.bot
    have := hy.bot
    have := hx.low.1
    have := hy.low.1
    exact ⟨x, y, rfl, hx.low, hy.low, h.head y rfl, by omega, by omega, by omega, by omega⟩
theorem Lin.z {x y : Int × Int} (h : Lin x y) : Zs 13 8 1 [x, y] := z_two (a := 4) h.lx h.ly h.ne (Nat.le_trans h.x1 (by decide)) (Nat.le_trans h.x2 (by decide)) (Nat.le_trans h.y1 (by decide)) (Nat.le_trans h.y2 (by decide))
theorem Lin.back {x y : Int × Int} (h : Lin x y) : Zs 13 8 1 (backQ [x, y]) ∧ ∀ z, pval ([x, y].map val) (pval ((backQ [x, y]).map val) z) = z := by
  have hp := h.lx.1
  have hq := h.ly.1
  have hne := h.ne
  have l1 := quo_low hp hne
  have l2 := quo_low (p := (1, 1)) (q := y) (by decide) hne
  have b1 := frN_le (mul_le16 h.x1 h.y2) (mul_le16 h.x2 h.y1)
  have b2 := frN_le (mul_le16 (a := 1) (by decide) h.y2) (mul_le16 (a := 1) (by decide) h.y1)
  have v1 := quo_val hp hq hne
  have v2 := quo_val (p := (1, 1)) (by decide) hq hne
  rw [val_11] at v2
  have n2 : (quoQ (1, 1) y).1 ≠ 0 := by
    intro z
    have e : val (quoQ (1, 1) y) = 0 := by
      unfold val
      rw [z]
      simp
      grind
    rw [v2] at e
    have := val_ne hq hne
    grind
  refine ⟨z_two (a := 4) (neg_low l1) l2 n2 ?_ b1.2 b2.1 b2.2, fun z => ?_⟩
  · show (-(quoQ x y).1).natAbs ≤ _
    rw [Int.natAbs_neg]
    exact b1.1
  · show val x + (val (-(quoQ x y).1, (quoQ x y).2) + z * (val (quoQ (1, 1) y) + z * 0)) * (val y + (val (-(quoQ x y).1, (quoQ x y).2) + z * (val (quoQ (1, 1) y) + z * 0)) * 0) = z
    rw [neg_val, v1, v2]
    have := val_ne hq hne
    grind
theorem row3_put {a b c : List (Int × Int)} (h1 : PutOk a b) (h2 : PutOk (compQ a b) c) : RowOk [a, b, c] := fun i t ht => by
  match i, ht with
  | 0, ht => rw [← Option.some.inj ht]; exact h1
  | 1, ht => rw [← Option.some.inj ht]; exact h2
theorem row3_good {a b c : List (Int × Int)} (h1 : isStep (sD a) = true) (h2 : isStep (sD b) = true) (h3 : isStep (sD c) = true) : GoodRow [a, b, c] := ⟨by simp, by simp, fun t ht => by
  simp only [List.mem_cons, List.not_mem_nil, or_false] at ht
  rcases ht with z | z | z <;> (rw [z]; assumption)⟩
/-- a step between a straight one and the one that undoes it -/
theorem turned_ok {k : Nat} {x y : Int × Int} {s : List (Int × Int)} (L : Lin x y) (Z : Zs 5 1 k s) (hk : k = 2 ∨ k = 3 ∨ k = 4) :
    (GoodRow [[x, y], s, backQ [x, y]] ∧ degs [[x, y], s, backQ [x, y]] ≤ 256 ∧ RowOk [[x, y], s, backQ [x, y]]) ∧ Zs 75 41 k (compRow [[x, y], s, backQ [x, y]]) := by
  have zl := L.z
  obtain ⟨zb, _⟩ := L.back
  have c1 := zl.comp (by decide) Z
  have c2 := c1.comp (by omega) zb
  refine ⟨⟨row3_good (zl.is (by decide) (by decide) (by decide)) (Z.is (by decide) (by decide) (by omega)) (zb.is (by decide) (by decide) (by decide)), ?_, row3_put (zl.put (by decide) Z (by omega) (by omega) (by omega) (by omega) (by omega)) (c1.put (by omega) zb ?_ (by omega) (by omega) (by omega) (by omega))⟩, ?_⟩
  · show 1 * (2 - 1) * (s.length - 1) * ((backQ [x, y]).length - 1) ≤ 256
    rw [Z.len, zb.len]
    omega
  · rcases hk with z | z | z <;> (subst z; decide)
  · show Zs 75 41 k (compQ (compQ [x, y] s) (backQ [x, y]))
    exact c2.to (by omega) (by omega) (by omega)
theorem turned_again {k : Nat} {T : List (Int × Int)} (Z : Zs 75 41 k T) (hk : k = 2 ∨ k = 3 ∨ k = 4) : isStep (sD T) = true ∧ (T.length - 1) ^ 2 ≤ 256 ∧ RowOk (againR T 2) := by
  have a0 : Zs 0 0 1 (againQ T 0) := z_let
  have a1 := a0.comp (by omega) Z
  rw [← againQ_succ] at a1
  refine ⟨Z.is (by decide) (by decide) (by omega), ?_, again_put fun i hi => ?_⟩
  · rw [Z.len, Nat.add_sub_cancel]
    rcases hk with z | z | z <;> (subst z; decide)
  · match i, hi with
    | 0, _ => exact a0.put (by decide) Z (by omega) (by omega) (by omega) (by omega) (by omega)
    | 1, _ =>
      rcases hk with z | z | z <;> (subst z; exact a1.put (by decide) Z (by decide) (by decide) (by decide) (by decide) (by decide))
    | n + 2, h => exact absurd h (by omega)
theorem turned_due {k : Nat} {x y : Int × Int} {s : List (Int × Int)} (L : Lin x y) (Z : Zs 5 1 k s) (hk : k = 2 ∨ k = 3 ∨ k = 4) :
    (GoodRow [[x, y], againQ s 2, backQ [x, y]] ∧ degs [[x, y], againQ s 2, backQ [x, y]] ≤ 256 ∧ RowOk [[x, y], againQ s 2, backQ [x, y]]) ∧ againQ (compRow [[x, y], s, backQ [x, y]]) 2 = compRow [[x, y], againQ s 2, backQ [x, y]] ∧
      Sh 1000000 60 (sD (compRow [[x, y], againQ s 2, backQ [x, y]])) := by
  have zl := L.z
  obtain ⟨zb, hv⟩ := L.back
  obtain ⟨A, A1⟩ := z_again (n := 2) Z hk (by rcases hk with z | z | z <;> (subst z; decide))
  obtain ⟨_, zT⟩ := turned_ok L Z hk
  have c1 := zl.comp (by decide) A
  have c2 := c1.comp (by omega) zb
  refine ⟨⟨row3_good (zl.is (by decide) (by decide) (by decide)) (A.is (by decide) (by decide) (by omega)) (zb.is (by decide) (by decide) (by decide)), ?_, row3_put (zl.put (by decide) A (by omega) (by omega) (by omega) (by omega) (by omega)) (c1.put (by omega) zb ?_ (by omega) (by omega) (by omega) (by omega))⟩, ?_, ?_⟩
  · show 1 * (2 - 1) * ((againQ s 2).length - 1) * ((backQ [x, y]).length - 1) ≤ 256
    rw [A.len, zb.len]
    omega
  · generalize k ^ 2 = e at A1
    have h1 : (15 + 8 * e + 1) * (1 * e + 1) ≤ (15 + 8 * 16 + 1) * (1 * 16 + 1) := Nat.mul_le_mul (by omega) (by omega)
    omega
  · obtain ⟨t1, t2⟩ := againQ_ok zT.stp 2
    have st : ∀ t ∈ [[x, y], againQ s 2, backQ [x, y]], Stp t := fun t ht => by
      simp only [List.mem_cons, List.not_mem_nil, or_false] at ht
      rcases ht with z | z | z
      · rw [z]; exact zl.stp
      · rw [z]; exact A.stp
      · rw [z]; exact zb.stp
    have st2 : ∀ t ∈ [[x, y], s, backQ [x, y]], Stp t := fun t ht => by
      simp only [List.mem_cons, List.not_mem_nil, or_false] at ht
      rcases ht with z | z | z
      · rw [z]; exact zl.stp
      · rw [z]; exact Z.stp
      · rw [z]; exact zb.stp
    obtain ⟨u1, u2, _⟩ := compRow_ok (by simp) st
    obtain ⟨_, w2, _⟩ := compRow_ok (by simp) st2
    refine canon t1.low u1.low t1.tr u1.tr fun z => ?_
    rw [t2, u2]
    show pval ((compRow [[x, y], s, backQ [x, y]]).map val) (pval ((compRow [[x, y], s, backQ [x, y]]).map val) z) = pval ((backQ [x, y]).map val) (pval ((againQ s 2).map val) (pval ([x, y].map val) z))
    rw [w2, w2, (againQ_ok Z.stp 2).2]
    show pval ((backQ [x, y]).map val) (pval (s.map val) (pval ([x, y].map val) (pval ((backQ [x, y]).map val) (pval (s.map val) (pval ([x, y].map val) z))))) = _
    rw [hv]
    rfl
  · show Sh 1000000 60 (sD (compQ (compQ [x, y] (againQ s 2)) (backQ [x, y])))
    exact c2.sh (by omega) (by omega)
/-! ### straight steps done often -/
def lineQ (x y : Int × Int) : Nat → (Int × Int) × (Int × Int)
  | 0 => ((0, 1), (1, 1))
  | n + 1 => (qadd (qmul (lineQ x y n).1 y) x, qmul (lineQ x y n).2 y)
theorem z_line {x y : Int × Int} (h : Lin x y) : ∀ n, Zs (14 * n) (8 * n) 1 (againQ [x, y] n)
  | 0 => z_let
  | n + 1 => by
    rw [againQ_succ]
    exact ((z_line h n).comp (by omega) h.z).to (by omega) (by omega) (by omega)
theorem qmul_ne {p q : Int × Int} (hp : 0 < p.2) (hq : 0 < q.2) (h1 : p.1 ≠ 0) (h2 : q.1 ≠ 0) : (qmul p q).1 ≠ 0 := fr_ne (Int.mul_pos hp hq) (Int.mul_ne_zero h1 h2)
theorem line_puts {x y : Int × Int} (h : Lin x y) {n : Nat} (hn : n ≤ 60) : RowOk (againR [x, y] n) := again_put fun i hi => by
  exact (z_line h i).put (by omega) h.z (by omega) (by omega) (by omega) (by omega) (by omega)
/-! ### powers, an example -/
theorem pow_again {a : Nat} (h : 1 ≤ a) : ∀ n, againQ (powS a) n = powS (a ^ n)
  | 0 => rfl
  | n + 1 => by
    rw [againQ_succ, pow_again h n, powS_comp (Nat.pow_pos h) h, Nat.pow_succ]
theorem pow_puts {a n : Nat} (h : 1 ≤ a) (hz : ∀ i, i < n → a ^ i * a + 1 + (a ^ i + 1) + (a + 1) ≤ 900) : RowOk (againR (powS a) n) := again_put fun i hi => by
  rw [pow_again h]
  exact powS_put (Nat.pow_pos h) h (hz i hi)
def exS : List (Int × Int) := [(0, 1), (1, 1), (1, 1)]
theorem ex_step : StepR 2 2 3 exS := ⟨rfl, fun q hq => by
  simp only [exS, List.mem_cons, List.not_mem_nil, or_false] at hq
  rcases hq with z | z | z <;> (rw [z]; exact ⟨⟨by decide, by decide⟩, by decide, by decide, by decide⟩), fun q hq => by cases hq; decide⟩
theorem ex_again : againQ exS 2 = [(0, 1), (1, 1), (2, 1), (2, 1), (1, 1)] := by
  have Z := z_told ex_step (by decide) (by decide)
  obtain ⟨a1, a2⟩ := againQ_ok Z.stp 2
  refine canon a1.low (fun q hq => ?_) a1.tr (fun q hq => by cases hq; decide) fun x => ?_
  · simp only [List.mem_cons, List.not_mem_nil, or_false] at hq
    rcases hq with z | z | z | z | z <;> (rw [z]; exact ⟨by decide, by decide⟩)
  · rw [a2]
    show val (0, 1) + (val (0, 1) + x * (val (1, 1) + x * (val (1, 1) + x * 0))) * (val (1, 1) + (val (0, 1) + x * (val (1, 1) + x * (val (1, 1) + x * 0))) * (val (1, 1) + (val (0, 1) + x * (val (1, 1) + x * (val (1, 1) + x * 0))) * 0)) = val (0, 1) + x * (val (1, 1) + x * (val (2, 1) + x * (val (2, 1) + x * (val (1, 1) + x * 0))))
    have e2 : val (2, 1) = 2 := by unfold val; simp; grind
    rw [val_01, val_11, e2]
    grind
end My

set_option Elab.async false
set_option linter.all false
set_option maxRecDepth 100000
set_option maxHeartbeats 4000000
set_option exponentiation.threshold 20000
namespace My
open PySem PySem.Spec PyProof.Rows L2 StX
/-! ### the middle of a step -/
/-- the number that a step is turned about, with the other sign: its last but one over its degree times its head -/
def midN (c h : Int × Int) (n : Nat) : Int × Int := quoQ c (qmul h ((n : Int), 1))
theorem bd_nat {n : Nat} (h : n < 2 ^ 10) : Bd 10 ((n : Int), 1) := ⟨show (0 : Int) < 1 by decide, by show (n : Int).natAbs < 2 ^ 10; rw [Int.natAbs_natCast]; exact h, show (1 : Int).natAbs < 2 ^ 10 by decide⟩
theorem qmul_ne' {p q : Int × Int} (hp : 0 < p.2) (hq : 0 < q.2) (h1 : p.1 ≠ 0) (h2 : q.1 ≠ 0) : (qmul p q).1 ≠ 0 := fr_ne (Int.mul_pos hp hq) (Int.mul_ne_zero h1 h2)
theorem midN_low {c h : Int × Int} {n : Nat} (hc : 0 < c.2) (hh : 0 < h.2) (hn : h.1 ≠ 0) (n1 : 1 ≤ n) : Low (midN c h n) := quo_low hc (qmul_ne' hh (show (0 : Int) < 1 by decide) hn (by show (n : Int) ≠ 0; omega))
theorem midN_val {c h : Int × Int} {n : Nat} (hc : 0 < c.2) (hh : 0 < h.2) (hn : h.1 ≠ 0) (n1 : 1 ≤ n) : val (midN c h n) = val c / (val h * (n : Rat)) := by
  unfold midN
  have e : val ((n : Int), 1) = (n : Rat) := by
    unfold val
    show ((n : Int) : Rat) / ((1 : Int) : Rat) = (n : Rat)
    have : ((1 : Int) : Rat) = 1 := rfl
    rw [this]
    have : ((n : Int) : Rat) = (n : Rat) := rfl
    rw [this]
    grind
  rw [quo_val hc (qmul_low hh (show (0 : Int) < 1 by decide)).1 (qmul_ne' hh (show (0 : Int) < 1 by decide) hn (by show (n : Int) ≠ 0; omega)), qmul_val hh (show (0 : Int) < 1 by decide), e]
section
variable {P : Program} {w : World} {K : PySem.W.Frag} {mg : Str → Option Value} {base : Heap} {t1 t2 t3 : Tok} {f : Addr} {fd : FuncData} {ad : Ads}
def sp_product_of (K : PySem.W.Frag) : Sp := fun vs H Q _ => ∃ (N : List Addr) (v u : V) (p q : Int × Int) (n : Nat), vs = [v, u] ∧ Live N H ∧ Dp K (cut N H) v (nD p) ∧ Dp K (cut N H) u (nD q) ∧ Bd n p ∧ Bd n q ∧ n ≤ 4000 ∧ Told K N H (nD (qmul p q)) Q
theorem atI_back {xs : List V} {y : V} {n : Nat} (h : xs.length = n + 2) (e : xs[n]? = some y) : atI xs (-2) = some y := by
  unfold atI ixN
  rw [if_neg (by decide), if_pos (by rw [h]; omega)]
  show xs[((xs.length : Int) + -2).toNat]? = some y
  rw [h, show (((n + 2 : Nat) : Int) + -2).toNat = n by omega]
  exact e
def sp_centre_of (K : PySem.W.Frag) : Sp := fun vs H Q _ => ∃ (N : List Addr) (v : V) (s : List (Int × Int)) (c h : Int × Int) (n b : Nat), vs = [v] ∧ Live N H ∧ Dp K (cut N H) v (sD s) ∧ s.length = n + 2 ∧ n ≤ 200 ∧ s[n]? = some c ∧ s.getLast? = some h ∧ Bd b c ∧ Bd b h ∧ b ≤ 2000 ∧ h.1 ≠ 0 ∧ Told K N H (nD (midN c h (n + 1))) Q
/-- a step moved so that its middle is X -/
def shiftQ (m : Int × Int) : List (Int × Int) := [(-m.1, m.2), (1, 1)]
def sp_centred (K : PySem.W.Frag) : Sp := fun vs H Q _ => ∃ (N : List Addr) (v : V) (s : List (Int × Int)) (c h : Int × Int) (n b : Nat), vs = [v] ∧ Live N H ∧ Dp K (cut N H) v (sD s) ∧ s.length = n + 2 ∧ n ≤ 200 ∧ s[n]? = some c ∧ s.getLast? = some h ∧ Bd b c ∧ Bd b h ∧ b ≤ 2000 ∧ h.1 ≠ 0 ∧ PutOk (shiftQ (midN c h (n + 1))) s ∧
  Told K N H (sD (compQ (shiftQ (midN c h (n + 1))) s)) Q
end
end My

set_option Elab.async false
set_option linter.all false
set_option maxRecDepth 100000
set_option maxHeartbeats 4000000
set_option exponentiation.threshold 20000
namespace My
open PySem PySem.Spec PyProof.Rows L2 StX
section
variable {P : Program} {w : World} {K : PySem.W.Frag} {mg : Str → Option Value} {base : Heap} {t1 t2 t3 : Tok} {f : Addr} {fd : FuncData} {ad : Ads}
/-! ### steps that are no straight ones -/
end
end My

set_option Elab.async false
set_option linter.all false
set_option maxRecDepth 100000
set_option maxHeartbeats 4000000
set_option exponentiation.threshold 20000
namespace My
open PySem PySem.Spec PyProof.Rows L2 LamX
/-! ### helpers that many laws want -/
theorem eqvAll_numH : ∀ {a b : List (Int × Int)}, PyData.eqvAll (a.map nD) (b.map nD) = decide (a = b)
  | [], [] => by simp [PyData.eqvAll]
  | [], _ :: _ => by simp [PyData.eqvAll]
  | _ :: _, [] => by simp [PyData.eqvAll]
  | p :: a, q :: b => by
    simp only [List.map_cons, PyData.eqvAll]
    rw [eqvn, eqvAll_numH]
    by_cases h1 : p = q <;> by_cases h2 : a = b <;> simp [h1, h2]
theorem eqv_stepH (a b : List (Int × Int)) : PyData.eqv (sD a) (sD b) = decide (a = b) := by
  unfold sD
  simp only [PyData.eqv]
  exact eqvAll_numH
theorem shapedS (s : List (Int × Int)) : SeqAt.shaped (sD s) = true := by
  obtain ⟨a, b⟩ := lay_step s
  unfold SeqAt.shaped
  rw [a, Bool.true_and, decide_eq_true_eq]
  omega
theorem row2_put {a b : List (Int × Int)} (h : PutOk a b) : RowOk [a, b] := fun i t ht => by
  match i, ht with
  | 0, ht => rw [← Option.some.inj ht]; exact h
theorem row2_good {a b : List (Int × Int)} (h1 : isStep (sD a) = true) (h2 : isStep (sD b) = true) : GoodRow [a, b] := ⟨by simp, by simp, fun t ht => by
  simp only [List.mem_cons, List.not_mem_nil, or_false] at ht
  rcases ht with z | z <;> (rw [z]; assumption)⟩
theorem cut_consH {p : Addr} {N : List Addr} {H : Hp} : Same (cut (p :: N) H) (cut N H) := fun a o e => by
  by_cases h : a ∈ p :: N
  · rw [cut_in h] at e; cases e
  · rw [cut_out h] at e
    rw [cut_out fun z => h (List.mem_cons_of_mem _ z)]
    exact e
theorem cut_newH {N : List Addr} {H H' : Hp} {p : Addr} (s : Same H H') (n : H p = none) : Same (cut N H) (cut (p :: N) H') := fun a o e => by
  by_cases h : a ∈ N
  · rw [cut_in h] at e; cases e
  · rw [cut_out h] at e
    rw [cut_out fun z => (List.mem_cons.mp z).elim (fun y => by rw [y, n] at e; cases e) h]
    exact s a o e
theorem same_outH {H H' : Hp} {p : Addr} {o : HO} (s : Same H H') (n : H p = none) : Same H (upd H' p o) := fun a u e => by
  rw [upd_ne (ne_of_none e n)]
  exact s a u e
theorem frN_neH {a b : Int} (ha : a ≠ 0) (hb : b ≠ 0) : (frN a b).1 ≠ 0 := by
  intro z
  have v := frN_val (a := a) hb
  unfold val at v
  rw [z] at v
  have l := frN_low (a := a) hb
  have b1 : (b : Rat) ≠ 0 := by simpa using hb
  have a1 : (a : Rat) ≠ 0 := by simpa using ha
  have o : ((0 : Int) : Rat) = 0 := rfl
  rw [o] at v
  have : (a : Rat) = (a : Rat) / (b : Rat) * b := by grind
  rw [← v] at this
  apply a1
  rw [this]
  grind
section
variable {K : PySem.W.Frag} {N : List Addr} {H : Hp}
theorem slA_H {a : Addr} {xs : List V} {lo hi : Option Int} {Q : VK} (l : Live N H) (hS : SqT K (cut N H) a xs) (k : ∀ (b : Addr) (H' : Hp), Same H H' → SqT K (cut N H') b (cutV xs lo hi) → Q (.ref b) H') :
    rSlA K (.ref a) lo hi H Q := by
  refine ⟨a, xs, rfl, seq_un hS, fun h => ?_, fun _ p np => ?_⟩
  · have e : cutV xs lo hi = xs := by unfold cutV; rw [h.1, h.2]; simp
    exact k a H (Same.refl H) (by rw [e]; exact hS)
  · exact k p _ (same_new np) (.inl (.inl (cut_at (l.new np) upd_same)))
theorem dpAll_dropLast {H : Hp} : ∀ {xs : List V} {ds : List PyData}, DpAll K H xs ds → DpAll K H xs.dropLast ds.dropLast
  | _, [], h => by cases h; exact .nil
  | _, [d], h => by
    cases h with
    | cons a b => cases b; exact .nil
  | _, d :: e :: ds, h => by
    cases h with
    | @cons x _ xs _ a b =>
      have ih := dpAll_dropLast b
      cases b with
      | cons a2 b2 => exact .cons a ih
theorem dpAll_takeZ {H : Hp} : ∀ {xs : List V} {ds : List PyData}, DpAll K H xs ds → ∀ n, DpAll K H (xs.take n) (ds.take n)
  | _, _, _, 0 => .nil
  | _, [], h, n + 1 => by cases h; exact .nil
  | _, d :: ds, h, n + 1 => by
    cases h with
    | cons a b => exact .cons a (dpAll_takeZ b n)
theorem dp_last {a : Addr} {zs : List V} {s : List (Int × Int)} {q : Int × Int} (h : DpAll K H zs (s.map nD)) (hq : s.getLast? = some q) : ∃ w, atI zs (-1) = some w ∧ Dp K H w (nD q) := by
  rw [List.getLast?_eq_getElem?] at hq
  obtain ⟨w, h1, h2⟩ := h.get (i := s.length - 1) (d := nD q) (by rw [List.getElem?_map, hq]; rfl)
  have hl := h.length
  rw [List.length_map] at hl
  have := (List.getElem?_eq_some_iff.mp hq).1
  exact ⟨w, atI_last' (n := s.length - 1) (by omega) h1, h2⟩
theorem dp_row2 {p : V} {a b : List (Int × Int)} (d : Dp K (cut N H) p (rowD [a, b])) : ∃ (q : Addr) (va vb : V), p = .ref q ∧ SqT K (cut N H) q [va, vb] ∧ Dp K (cut N H) va (sD a) ∧ Dp K (cut N H) vb (sD b) := by
  obtain ⟨q, xs, rfl, h1, h2⟩ := d.tupI
  cases h2 with
  | cons x y =>
    cases y with
    | cons x2 y2 =>
      cases y2
      exact ⟨q, _, _, rfl, h1, x, x2⟩
theorem dp_row3 {p : V} {a b c : List (Int × Int)} (d : Dp K (cut N H) p (rowD [a, b, c])) : ∃ (q : Addr) (va vb vc : V), p = .ref q ∧ SqT K (cut N H) q [va, vb, vc] ∧ Dp K (cut N H) va (sD a) ∧ Dp K (cut N H) vb (sD b) ∧ Dp K (cut N H) vc (sD c) := by
  obtain ⟨q, xs, rfl, h1, h2⟩ := d.tupI
  cases h2 with
  | cons x y =>
    cases y with
    | cons x2 y2 =>
      cases y2 with
      | cons x3 y3 =>
        cases y3
        exact ⟨q, _, _, _, rfl, h1, x, x2, x3⟩
theorem dp_line {p : V} {x y : Int × Int} (d : Dp K (cut N H) p (sD [x, y])) : ∃ q px py : Addr, p = .ref q ∧ SqT K (cut N H) q [.ref px, .ref py] ∧ SqT K (cut N H) px [.int x.1, .int x.2] ∧ SqT K (cut N H) py [.int y.1, .int y.2] := by
  obtain ⟨q, xs, rfl, h1, h2⟩ := d.tupI
  cases h2 with
  | cons a b =>
    cases b with
    | cons a2 b2 =>
      cases b2
      obtain ⟨px, rfl, hx⟩ := dp_num a
      obtain ⟨py, rfl, hy⟩ := dp_num a2
      exact ⟨q, px, py, rfl, h1, hx, hy⟩
end
/-- the last number multiplied -/
theorem ov_twice {D n : Int} (h : 0 < D) : qmul (fr n D) (2, 1) = fr (2 * n) D := by
  have l := fr_low (a := n) h
  refine low_eq (qmul_low l.1 (by decide)) (fr_low h) ?_
  rw [qmul_val l.1 (by decide), fr_val h, fr_val h, Rat.intCast_mul]
  have : val (2, 1) = 2 := by unfold val; show ((2 : Int) : Rat) / ((1 : Int) : Rat) = 2; have o : ((1 : Int) : Rat) = 1 := rfl; have t : ((2 : Int) : Rat) = 2 := rfl; rw [o, t]; grind
  rw [this]
  have t : ((2 : Int) : Rat) = 2 := rfl
  rw [t]
  grind
theorem Zs.twice {m d n : Nat} {s : List (Int × Int)} (h : Zs m d n s) {q : Int × Int} (hq : s.getLast? = some q) : Zs (m + 1) d n (s.dropLast ++ [qmul q (2, 1)]) := by
  have D0 := lcm_pos' h.stp.pos
  have e := ov_tops h.stp.low
  have tl := tops_len s
  have ne : tops s ≠ [] := fun z => by rw [z] at tl; have := h.stp.two; simp at tl; omega
  have e2 : (tops s).dropLast ++ [(tops s).getLast ne] = tops s := List.dropLast_concat_getLast ne
  have es : s.dropLast ++ [qmul q (2, 1)] = ov (lcmL s : Int) ((tops s).dropLast ++ [2 * (tops s).getLast ne]) := by
    have a1 : s = ov (lcmL s : Int) (tops s).dropLast ++ [fr ((tops s).getLast ne) (lcmL s : Int)] := by
      conv => lhs; rw [← e, ← e2]
      unfold ov
      rw [List.map_append]
      rfl
    have a2 : q = fr ((tops s).getLast ne) (lcmL s : Int) := by
      rw [a1, List.getLast?_concat] at hq
      exact (Option.some.inj hq).symm
    have a3 : s.dropLast = ov (lcmL s : Int) (tops s).dropLast := by
      conv => lhs; rw [a1]
      exact List.dropLast_concat
    rw [a3, a2, ov_twice D0]
    unfold ov
    rw [List.map_append]
    rfl
  have nr : nrm ((tops s).dropLast ++ [2 * (tops s).getLast ne]) ≤ 2 * nrm (tops s) := by
    have a := congrArg nrm e2
    rw [nrm_append, nrm_cons] at a
    rw [nrm_append, nrm_cons, ← a, Int.natAbs_mul]
    show _ + (2 * _ + nrm []) ≤ 2 * (_ + (_ + nrm []))
    omega
  have lq := h.stp.low q (List.mem_of_getLast? hq)
  refine ⟨⟨?_, ?_, fun r hr => ?_⟩, ⟨?_, ?_⟩, ?_⟩
  · rw [es]
    exact ov_low D0 _
  · rw [List.length_append, List.length_dropLast]
    have := h.stp.two
    show 2 ≤ s.length - 1 + 1
    omega
  · rw [List.getLast?_concat] at hr
    rw [← Option.some.inj hr]
    intro z
    have hz := h.stp.tr q hq
    have v := qmul_val lq.1 (show (0 : Int) < ((2, 1) : Int × Int).2 by decide)
    have v0 : val (qmul q (2, 1)) = 0 := by unfold val; rw [z]; have : ((0 : Int) : Rat) = 0 := rfl; rw [this]; grind
    rw [v0] at v
    have : val (2, 1) = 2 := by unfold val; show ((2 : Int) : Rat) / ((1 : Int) : Rat) = 2; have o : ((1 : Int) : Rat) = 1 := rfl; have t : ((2 : Int) : Rat) = 2 := rfl; rw [o, t]; grind
    rw [this] at v
    exact val_ne lq.1 hz (by grind)
  · rw [es]
    refine Nat.le_trans (ov_nrm D0 _) (Nat.le_trans nr ?_)
    rw [Nat.pow_succ]
    have := h.bits.top
    omega
  · rw [es]
    refine Nat.le_trans (Nat.le_of_dvd ?_ (ov_lcm D0 _)) ?_
    · omega
    · rw [Int.natAbs_natCast]
      exact h.bits.bot
  · rw [List.length_append, List.length_dropLast, h.len]
    rfl
def alikeB (a b c d : List (Int × Int)) (l : List (Int × Int)) : Bool := l.all fun x => decide (lawV b (lawV a x) = lawV d (lawV c x))
theorem alikeB_snoc (a b c d l : List (Int × Int)) (x : Int × Int) : alikeB a b c d (l ++ [x]) = (alikeB a b c d l && decide (lawV b (lawV a x) = lawV d (lawV c x))) := by
  unfold alikeB
  rw [List.all_append]
  simp
/-- two wholes are one if they lead enough numbers alike -/
theorem comp_alike {a b c d : List (Int × Int)} {n : Nat} (sa : Stp a) (sb : Stp b) (sc : Stp c) (sd : Stp d) (l1 : (compQ a b).length = n) (l2 : (compQ c d).length = n) {ys : List (Int × Int)} (hl : n ≤ ys.length) (nod : ys.Nodup) (low : ∀ q ∈ ys, Low q) :
    decide (compQ a b = compQ c d) = alikeB a b c d ys := by
  have v : ∀ {a b : List (Int × Int)}, Stp a → Stp b → ∀ q, 0 < q.2 → Low (lawV b (lawV a q)) ∧ val (lawV b (lawV a q)) = pval ((compQ a b).map val) (val q) := fun {a b} sa sb q hq => by
    obtain ⟨u1, u2⟩ := lawV_ok (s := a) sa.pos hq
    obtain ⟨w1, w2⟩ := lawV_ok (s := b) sb.pos u1.1
    exact ⟨w1, by rw [w2, u2, compQ_val sa.pos sa.ne sb.pos sb.ne]⟩
  have ea : alikeB a b c d ys = decide (∀ q ∈ ys, lawV b (lawV a q) = lawV d (lawV c q)) := by
    unfold alikeB
    rw [Bool.eq_iff_iff, List.all_eq_true, decide_eq_true_eq]
    exact ⟨fun h q hq => of_decide_eq_true (h q hq), fun h q hq => decide_eq_true (h q hq)⟩
  rw [ea]
  refine decide_eq_decide.mpr ⟨fun e q hq => ?_, fun h => ?_⟩
  · obtain ⟨u1, u2⟩ := v sa sb q (low q hq).1
    obtain ⟨w1, w2⟩ := v sc sd q (low q hq).1
    exact low_eq u1 w1 (by rw [u2, w2, e])
  · have s1 := compQ_stp sa sb
    have s2 := compQ_stp sc sd
    refine interp (n := n) s1.low s2.low s1.tr s2.tr (by omega) (by omega) (xs := ys.map val) ?_ (by rw [List.length_map]; exact hl) fun x hx => ?_
    · refine List.pairwise_map.mpr (List.Pairwise.imp_of_mem ?_ nod)
      intro p q hp hq h e
      exact h (low_eq (low p hp) (low q hq) e)
    · obtain ⟨q, hq, rfl⟩ := List.mem_map.mp hx
      rw [← (v sa sb q (low q hq).1).2, ← (v sc sd q (low q hq).1).2, h q hq]
end My

set_option Elab.async false
set_option linter.all false
set_option maxRecDepth 100000
set_option maxHeartbeats 4000000
set_option exponentiation.threshold 20000
namespace My
open PySem PySem.Spec PyProof.Rows L2 LamX
section
variable {P : Program} {w : World} {K : PySem.W.Frag} {mg : Str → Option Value} {base : Heap} {t1 t2 t3 : Tok} {f : Addr} {fd : FuncData} {ad : Ads}
def sp_law_like3 (K : PySem.W.Frag) : Sp := fun vs H Q _ => ∃ (v u : V) (d : PyData), vs = [v, u] ∧ Dp K H v d ∧ Dp K H u d ∧ Sh 1000000 60 d ∧ rpOk d = true ∧ Q (.bl true) H
theorem ok__law_like3 (F : Fun K "_law_like" "_law_like" s__law_like f fd) (T : Txt K mg t1 t2 t3) : FnG P w K mg base CX0 1 f fd ["got", "due"] (sp_law_like3 K) := by
  refine fun_g F sc__law_like (fun vs H Q E h => ?_) (fun cdv A outer s H vs Q E hcdv hgd hr h => ?_)
  · obtain ⟨v, u, d, rfl, _⟩ := h
    rfl
  · obtain ⟨v, u, d, rfl, h1, h2, S, hD, k⟩ := h
    have hgd : (A.deeper (envOfC "_law_like" (defScope s__law_like) s.heap.objs.size f cdv)).guards = some [] := hgd
    refine ⟨_, (pss_one (ps_ret (pe_cmpR op_eq (pe_callB (cr_reprA hgd (un64 hr)) (by rfl) T.f_repr (by decide +kernel) (pa_cons (pv 0) pa_nil)) (pe_callB (cr_reprA hgd (un64 hr)) (by rfl) T.f_repr (by decide +kernel) (pa_cons (pv 1) pa_nil)) (nomark _)))), ?_⟩
    have hz : d.shown.length ≤ sizeLine := Nat.le_trans S.len (by rw [sizeLine_eq]; decide)
    refine ⟨_, rfl, v, d, rfl, h1, S.ok, S.nod, S.deep, hz, hD, _, rfl, u, d, rfl, h2, S.ok, S.nod, S.deep, hz, hD, ?_⟩
    refine ⟨rfl, ?_⟩
    rw [decide_eq_true rfl]
    exact k
end
end My

set_option Elab.async false
set_option linter.all false
set_option maxRecDepth 100000
set_option maxHeartbeats 4000000
set_option exponentiation.threshold 20000
namespace My
open PySem PySem.Spec PyProof.Rows L2 LamX
/-! ### the bound of a step -/
def natL (s : List (Int × Int)) : List Nat := (tops s).map Int.natAbs
def restN (s : List (Int × Int)) : List Nat := (natL s).dropLast
def headN (s : List (Int × Int)) : Nat := (natL s).getLast?.getD 0
theorem natL_len (s : List (Int × Int)) : (natL s).length = s.length := by unfold natL; rw [List.length_map, tops_len]
theorem restN_len (s : List (Int × Int)) : (restN s).length = s.length - 1 := by unfold restN; rw [List.length_dropLast, natL_len]
theorem natL_app {s : List (Int × Int)} (h : s ≠ []) : restN s ++ [headN s] = natL s := by
  have hn : natL s ≠ [] := by
    intro z
    have := natL_len s
    rw [z] at this
    exact h (List.length_eq_zero_iff.mp this.symm)
  unfold restN headN
  rw [List.getLast?_eq_some_getLast hn]
  exact List.dropLast_concat_getLast hn
theorem abs_if (n : Int) : (if n < 0 then -n else n) = (n.natAbs : Int) := by split <;> omega
theorem intsN_len (l : List Nat) : (intsN l).length = l.length := List.length_map _
theorem intsN_app (a b : List Nat) : intsN (a ++ b) = intsN a ++ intsN b := List.map_append
section
variable {P : Program} {w : World} {K : PySem.W.Frag} {mg : Str → Option Value} {base : Heap} {t1 t2 t3 : Tok} {f : Addr} {fd : FuncData} {ad : Ads}
def sp_reaches (K : PySem.W.Frag) : Sp := fun vs H Q _ => ∃ (a : Addr) (l : List Nat) (h D x t n : Nat), vs = [.ref a, .int (D : Int), .int (x : Int)] ∧ SqL K H a ((intsN (l ++ [h])).map V.int) ∧ (∀ z ∈ l ++ [h], z < 2 ^ t) ∧ x < 2 ^ n ∧ D < 2 ^ t ∧ t + (n + 1) * (l.length + 2) ≤ 300000 ∧ l.length ≤ 1000 ∧
  ∀ H', Same H H' → Q (.bl (decide (Reach l h D x))) H'
theorem ok_reaches (F : Fun K "reaches" "reaches" s_reaches f fd) (T : Txt K mg t1 t2 t3) : FnOk P w K mg base CX0 1 f fd ["sizes", "bottom", "bound"] (sp_reaches K) := by
  refine F.ok sc_reaches (fun vs H Q E h => ?_) (fun cdv A outer s H vs Q E hr h => ?_)
  · obtain ⟨a, l, h, D, x, t, n, rfl, _⟩ := h
    rfl
  · obtain ⟨a, l, h, D, x, t, n, rfl, hS, hb, hx, hD, hz, hl, k⟩ := h
    refine ⟨_, (pss_cons (ps_set (i := 3) sc_reaches.nd rfl (Or.inl rfl) (pe_ix ix_list (pv 0) (pe_un un_neg pe_int) (fun _ _ => rfl)))
      (pss_cons (ps_for PassesOwn.never rfl (pi_reversed (by rfl) T.f_reversed (pa_cons (pe_slice sl_list (pv 0) po_none (po_some (pe_un un_neg pe_int))) pa_nil)) (pg_name (i := 4) sc_reaches.nd rfl (Or.inl rfl))
      (pss_one (ps_set (i := 3) sc_reaches.nd rfl (Or.inl rfl) (pe_op op_sub (pe_op op_mulW (pv 3) (pv 2)) (pv 4)))))
      (pss_one (ps_ret (pe_cmpR op_ge (pv 3) (pe_op op_mulW (pv 1) (pv 2)) (nomark _)))))), ?_⟩
    have elast : atI ((intsN (l ++ [h])).map V.int) (-1) = some (.int (h : Int)) := by
      rw [intsN_app, List.map_append]
      exact atI_last _ _
    refine ⟨_, rfl, _, rfl, a, _, _, _, rfl, rfl, hS, elast, ?_⟩
    refine ⟨_, rfl, _, rfl, _, rfl, a, _, rfl, hS, fun q hq => ?_⟩
    have ecut : cutV ((intsN (l ++ [h])).map V.int) none (some (-1)) = (intsN l).map V.int := by
      rw [cut_last, intsN_app, List.map_append]
      exact List.dropLast_concat
    rw [ecut]
    have S1 := same_new (o := .lst ((intsN l).map V.int)) hq
    have hq0 : (upd H q (.lst ((intsN l).map V.int))) q = some (.lst ((intsN l).map V.int)) := upd_same
    generalize upd H q (.lst ((intsN l).map V.int)) = H1 at S1 hq0 ⊢
    have ms : ∀ i, (∀ z ∈ ((intsN (l.drop i)).map (fun t => -t) ++ [(h : Int)]), z.natAbs < 2 ^ t) := fun i z hz => by
      rcases List.mem_append.mp hz with y | y
      · obtain ⟨u, hu, rfl⟩ := List.mem_map.mp y
        obtain ⟨v, hv, rfl⟩ := List.mem_map.mp hu
        rw [Int.natAbs_neg, Int.natAbs_natCast]
        exact hb v (List.mem_append_left _ (List.mem_of_mem_drop hv))
      · rw [List.mem_singleton.mp y, Int.natAbs_natCast]
        exact hb h (List.mem_append_right _ List.mem_cons_self)
    have hxa : ((x : Int)).natAbs < 2 ^ n := by rw [Int.natAbs_natCast]; exact hx
    have bd : ∀ i, (hornZ ((intsN (l.drop i)).map (fun t => -t) ++ [(h : Int)]) x).natAbs < 2 ^ (t + (n + 1) * (l.length + 1)) := fun i => by
      refine Nat.lt_of_lt_of_le (hornZ_bd hxa (ms i)) (Nat.pow_le_pow_right (by decide) ?_)
      have : ((intsN (l.drop i)).map (fun t => -t) ++ [(h : Int)]).length ≤ l.length + 1 := by
        rw [List.length_append, List.length_map, intsN_len, List.length_drop]
        show _ + 1 ≤ _
        omega
      have := Nat.mul_le_mul_left (n + 1) this
      omega
    have z1 : (n + 1) * (l.length + 2) = (n + 1) * (l.length + 1) + (n + 1) := by rw [Nat.mul_add (n + 1) (l.length + 1) 1, Nat.mul_one]
    refine ⟨q, _, rfl, .inl (.inl hq0), for_rev (K := K) (a := q) (xs := (intsN l).map V.int)
      (fun i σ H' => H' = H1 ∧ ∃ o, σ = [some (.ref a), some (.int (D : Int)), some (.int (x : Int)), some (.int (hornZ ((intsN (l.drop (l.length - i))).map (fun t => -t) ++ [(h : Int)]) x)), o])
      ⟨rfl, _, by rw [Nat.sub_zero, List.drop_length]; show _ = [_, _, _, some (V.int (0 * (x : Int) + h)), _]; rw [Int.zero_mul, Int.zero_add]; rfl⟩ (fun i σ H' h => h.1 ▸ .inl (.inl hq0)) ?_ ?_⟩
    · rintro i y σ H' hi hy ⟨rfl, o, rfl⟩
      rw [List.length_map, intsN_len] at hi hy
      obtain ⟨z, hz1, rfl⟩ := map_get hy
      obtain ⟨u, hu, rfl⟩ := map_get hz1
      have hd : l.drop (l.length - (i + 1)) = u :: l.drop (l.length - i) := by
        obtain ⟨h1, h2⟩ := List.getElem?_eq_some_iff.mp hu
        have e1 : l.length - (i + 1) = l.length - 1 - i := by omega
        have e2 : l.length - i = l.length - 1 - i + 1 := by omega
        rw [e1, e2, List.drop_eq_getElem_cons h1, h2]
      refine ⟨_, rfl, _, rfl, _, _, rfl, rfl, W2 (bd _) hxa (by omega), _, rfl, _, _, rfl, rfl, rfl, some (.int (u : Int)), ?_⟩
      have es : hornZ ((intsN (u :: l.drop (l.length - i))).map (fun t => -t) ++ [(h : Int)]) x = hornZ ((intsN (l.drop (l.length - i))).map (fun t => -t) ++ [(h : Int)]) x * x - u := by
        show hornZ ((intsN (l.drop (l.length - i))).map (fun t => -t) ++ [(h : Int)]) x * x + -(u : Int) = _
        omega
      rw [hd, es]
      rfl
    · rintro σ H' ⟨rfl, o, rfl⟩
      rw [List.length_map, intsN_len, Nat.sub_self, List.drop_zero]
      refine ⟨_, rfl, _, rfl, _, rfl, _, _, rfl, rfl, W2 (by rw [Int.natAbs_natCast]; exact hD) hxa (by omega), _, _, rfl, rfl, ?_⟩
      have e := reach_red l h D x
      have e : decide ((D : Int) * x ≤ hornZ ((intsN l).map (fun t => -t) ++ [(h : Int)]) x) = decide (Reach l h D x) := decide_eq_decide.mpr e.symm
      have k := k _ S1
      rw [← e] at k
      exact k
/-- bits of a step's numbers over their divisor, and of a bound -/
structure BoundOk (s : List (Int × Int)) (x : Nat) (t n : Nat) : Prop where
  x1 : 1 ≤ x
  xn : x < 2 ^ n
  far : Reach (restN s) (headN s) (lcmL s) x
  tops : ∀ z ∈ natL s, z < 2 ^ t
  low : lcmL s < 2 ^ t
  size : t + (n + 2) * (s.length + 2) ≤ 300000
def sp_bound_of (K : PySem.W.Frag) : Sp := fun vs H Q _ => ∃ (N : List Addr) (v : V) (s : List (Int × Int)) (tb pb x t n : Nat), vs = [v] ∧ Live N H ∧ Dp K (cut N H) v (sD s) ∧ Fit tb pb s ∧ pb * s.length + pb + tb ≤ 8000 ∧ s.length ≤ 1000 ∧ 2 ≤ s.length ∧ BoundOk s x t n ∧
  ∀ (b : Nat) (H' : Hp), Same H H' → Least (Reach (restN s) (headN s) (lcmL s)) b → Q (.int (b : Int)) H'
theorem ok_bound_of (F : Fun K "bound_of" "bound_of" s_bound_of f fd) (T : Txt K mg t1 t2 t3) (C_opened : Ce P w K mg base CX0 1 "opened" ["numbers"] (sp_opened K)) (C_reaches : Ce P w K mg base CX0 1 "reaches" ["sizes", "bottom", "bound"] (sp_reaches K)) :
    FnOk P w K mg base CX0 2 f fd ["step"] (sp_bound_of K) := by
  refine F.ok sc_bound_of (fun vs H Q E h => ?_) (fun cdv A outer s H vs Q E hr h => ?_)
  · obtain ⟨N, v, st, tb, pb, x, t, n, rfl, _⟩ := h
    rfl
  · obtain ⟨N, v, st, tb, pb, x, t, n, rfl, l, hd, fit, hz, hl, h2, B, k⟩ := h
    refine ⟨_, (pss_cons (ps_asg (pe_ce C_opened (hr.mono (by decide)) pass0 (pa_cons (pv 0) pa_nil)) (pg_tup rfl (pgs_cons (pg_name (i := 4) sc_bound_of.nd rfl (Or.inl rfl)) (pgs_cons (pg_name (i := 5) sc_bound_of.nd rfl (Or.inl rfl)) pgs_nil))))
      (pss_cons (ps_setLc (i := 1) (own := [("top", 7)]) (g := gName 7) rfl sc_bound_of.nd rfl rfl (sw_true rfl rfl rfl (by decide +kernel)) (pi_list (pv 4)) (blkOk_by (N := ["step", "sizes", "high", "low", "tops", "bottom", "half", "top"]) (sc := defScope s_bound_of) (by decide +kernel)) (fun _ _ _ _ _ => by exact (pg_name (i := 7) sc_bound_of.nd rfl (Or.inl rfl))) (fun _ _ _ _ _ => by exact pts_nil) (fun _ _ _ _ _ => by exact (pe_callB call_abs (by rfl) T.f_abs (by decide +kernel) (pa_cons (pv 7) pa_nil))))
      (pss_cons (ps_set (i := 2) sc_bound_of.nd rfl (Or.inl rfl) pe_int)
      (pss_cons (ps_while PassesOwn.never (pt_not (pt_val (pe_ce C_reaches (hr.mono (by decide)) pass0 (pa_cons (pv 1) (pa_cons (pv 5) (pa_cons (pv 2) pa_nil)))))) (pss_one (ps_aug (i := 2) sc_bound_of.nd rfl (Or.inl rfl) pe_int ip_mulW)))
      (pss_cons (ps_set (i := 3) sc_bound_of.nd rfl (Or.inl rfl) (pe_op op_fdivW (pv 2) pe_int))
      (pss_cons (ps_while PassesOwn.never (pt_cmpR op_gt (pe_op op_sub (pv 2) (pv 3)) pe_int (nomark _)) (pss_cons (ps_set (i := 6) sc_bound_of.nd rfl (Or.inl rfl) (pe_op op_fdivW (pe_op op_add (pv 3) (pv 2)) pe_int))
      (pss_one (ps_if (pt_val (pe_ce C_reaches (hr.mono (by decide)) pass0 (pa_cons (pv 1) (pa_cons (pv 5) (pa_cons (pv 6) pa_nil))))) (pss_one (ps_set (i := 2) sc_bound_of.nd rfl (Or.inl rfl) (pv 6))) (pss_one (ps_set (i := 3) sc_bound_of.nd rfl (Or.inl rfl) (pv 6)))))))
      (pss_one (ps_ret (pv 2))))))))), ?_⟩
    refine ⟨_, rfl, N, st, v, tb, pb, rfl, l, hd, fit, hz, hl, fun r H1 s1 hr1 => ?_⟩
    obtain ⟨p, ys, rfl, hp, hys⟩ := hr1.tupI
    cases hys with
    | @cons y1 _ _ _ d1 r1 =>
    cases r1 with
    | @cons y2 _ _ _ d2 r2 =>
    cases r2
    have e2 := d2.i
    subst e2
    obtain ⟨pl, zs, rfl, hpl, hzs⟩ := d1.lstI
    have e3 := dp_ints hzs
    subst e3
    have hpl1 : SqL K H1 pl ((tops st).map V.int) := lst_same (cut_same N H1) hpl
    refine ⟨p, _, rfl, seq_un hp, rfl, _, _, rfl, _, _, rfl, rfl, ?_⟩
    refine ⟨_, rfl, pl, rfl, ⟨_, hpl1⟩, fun D hD => ?_⟩
    refine lc_list (K := K) (a := pl) (xs := (tops st).map V.int) (fun i H' => H' = upd H1 D (.lst ((intsN ((natL st).take i)).map V.int))) rfl (fun i H' _ h => h ▸ lst_same (same_new hD) hpl1) ?_ ?_
    · rintro i y H' hy rfl
      obtain ⟨z, hz1, rfl⟩ := map_get hy
      have hi := (List.getElem?_eq_some_iff.mp hz1).1
      have hn : (natL st)[i]? = some z.natAbs := by unfold natL; rw [List.getElem?_map, hz1]; rfl
      refine ⟨rfl, ?_⟩
      dsimp only [tYes]
      rw [if_pos rfl]
      refine ⟨_, rfl, z, rfl, ?_⟩
      rw [abs_if]
      refine ⟨_, upd_same, ?_, ?_⟩
      · rw [List.length_map, intsN_len, List.length_take, natL_len]
        exact small1000 (by omega)
      · rw [upd_upd, take_more hn, intsN_app, List.map_append]
        rfl
    rintro H2 rfl
    have el : (natL st).take ((tops st).map V.int).length = natL st := List.take_of_length_le (by rw [List.length_map, tops_len, natL_len]; exact Nat.le_refl _)
    rw [el]
    have S2 := s1.trans (same_new (o := .lst ((intsN (natL st)).map V.int)) hD)
    have hst : st ≠ [] := by intro z; rw [z] at h2; simp at h2
    have eD : SqL K (upd H1 D (.lst ((intsN (natL st)).map V.int))) D ((intsN (restN st ++ [headN st])).map V.int) := by
      rw [natL_app hst]
      exact .inl (.inl upd_same)
    generalize upd H1 D (.lst ((intsN (natL st)).map V.int)) = H2 at S2 eD ⊢
    have rl := restN_len st
    have sB : t + (n + 1 + 1) * ((restN st).length + 2) ≤ 300000 := by
      rw [rl]
      have := B.size
      have h3 : (n + 1 + 1) * (st.length - 1 + 2) ≤ (n + 2) * (st.length + 2) := Nat.mul_le_mul_left _ (by omega)
      omega
    have tB : ∀ z ∈ restN st ++ [headN st], z < 2 ^ t := by rw [natL_app hst]; exact B.tops
    have up := fun {a b : Nat} (h1 : 1 ≤ a) (h2' : a ≤ b) => reach_up (l := restN st) (h := headN st) (D := lcmL st) h1 h2' (by omega)
    have d2 : CDivW 0 2 := ⟨by decide, by decide⟩
    refine while_by (fun σ H' => Same H2 H' ∧ ∃ hi : Nat, σ = [some v, some (.ref D), some (.int (hi : Int)), none, some (.ref pl), some (.int ((lcmL st : Nat) : Int)), none, none] ∧ 1 ≤ hi ∧ hi < 2 * x ∧ (hi ≠ 1 → ¬ Reach (restN st) (headN st) (lcmL st) (hi / 2)))
      (fun σ _ => match σ with | [_, _, some (.int h), _, _, _, _, _] => 2 * x - h.toNat | _ => 0) ⟨Same.refl H2, 1, (by show _ = [_, _, some (V.int 1), _, _, _, _, _]; rfl), by decide, by have := B.x1; omega, fun z => absurd rfl z⟩ ?_ ?_
    · rintro σ H3 ⟨S3, hi, rfl, h1, hx, hno⟩
      have xn := B.xn
      have p2 : 2 ^ (n + 1) = 2 * 2 ^ n := by rw [Nat.pow_succ, Nat.mul_comm]
      refine ⟨_, rfl, _, rfl, _, rfl, D, restN st, headN st, lcmL st, hi, t, n + 1, rfl, lst_same S3 eD, tB, by omega, B.low, sB, by omega, fun H4 s4 => ⟨_, rfl, ?_⟩⟩
      have S4 := S3.trans s4
      by_cases g : Reach (restN st) (headN st) (lcmL st) hi
      · rw [decide_eq_true g]
        refine iteF ?_
        refine ⟨_, rfl, _, _, rfl, rfl, d2, ?_⟩
        have e0 : (hi : Int) / 2 = ((hi / 2 : Nat) : Int) := by omega
        change gName 3 (.int ((hi : Int) / 2)) _ _ _
        rw [e0]
        refine while_by (fun σ H' => Same H2 H' ∧ ∃ (hi lo : Nat) (o : Option V), σ = [some v, some (.ref D), some (.int (hi : Int)), some (.int (lo : Int)), some (.ref pl), some (.int ((lcmL st : Nat) : Int)), o, none] ∧ lo < hi ∧ hi < 2 * x ∧ Reach (restN st) (headN st) (lcmL st) hi ∧ (lo = 0 ∨ ¬ Reach (restN st) (headN st) (lcmL st) lo))
          (fun σ _ => match σ with | [_, _, some (.int h), some (.int l), _, _, _, _] => (h - l).toNat | _ => 0) ⟨S4, hi, hi / 2, none, rfl, by omega, hx, g, ?_⟩ ?_ ?_
        · by_cases z : hi = 1
          · exact .inl (by rw [z])
          · exact .inr (hno z)
        · rintro σ H5 ⟨S5, hi, lo, o, rfl, hlo, hx, g, hn⟩
          refine ⟨_, rfl, _, rfl, _, _, rfl, rfl, _, _, rfl, rfl, _, rfl, ?_⟩
          by_cases gd : (1 : Int) < (hi : Int) - lo
          · rw [decide_eq_true gd]
            refine iteT ?_
            refine ⟨_, rfl, _, rfl, _, _, rfl, rfl, _, _, rfl, rfl, d2, ?_⟩
            have e1 : ((lo : Int) + hi) / 2 = (((lo + hi) / 2 : Nat) : Int) := by omega
            refine ⟨_, rfl, _, rfl, _, rfl, D, restN st, headN st, lcmL st, (lo + hi) / 2, t, n + 1, (by show [V.ref D, _, V.int (((lo : Int) + hi) / 2)] = _; rw [e1]), lst_same S5 eD, tB, by omega, B.low, sB, by omega, fun H6 s6 => ⟨_, rfl, ?_⟩⟩
            have S6 := S5.trans s6
            have e2 : ((lo : Int) + hi) / 2 = (((lo + hi) / 2 : Nat) : Int) := e1
            by_cases g2 : Reach (restN st) (headN st) (lcmL st) ((lo + hi) / 2)
            · rw [decide_eq_true g2]
              refine iteT ⟨_, rfl, ⟨S6, (lo + hi) / 2, lo, some (.int (((lo : Int) + hi) / 2)), (by rw [← e1]; rfl), by omega, by omega, g2, hn⟩, ?_⟩
              show ((((lo : Int) + hi) / 2) - lo).toNat < ((hi : Int) - lo).toNat
              omega
            · rw [decide_eq_false g2]
              refine iteF ⟨_, rfl, ⟨S6, hi, (lo + hi) / 2, some (.int (((lo : Int) + hi) / 2)), (by rw [← e1]; rfl), by omega, hx, g, .inr g2⟩, ?_⟩
              show ((hi : Int) - (((lo : Int) + hi) / 2)).toNat < ((hi : Int) - lo).toNat
              omega
          · rw [decide_eq_false gd]
            refine iteF ?_
            refine ⟨_, rfl, k hi H5 (S2.trans S5) ⟨by omega, g, fun y y1 y2 r => ?_⟩⟩
            rcases hn with z | z
            · omega
            · exact z (up y1 (by omega) r) 
        · rintro σ H' Q1 Q2 hq ⟨v1, h1, v2, h2, i, j, e1, e2, i2, j2, e3, e4, b, e5, r⟩
          exact ⟨v1, h1, v2, h2, i, j, e1, e2, i2, j2, e3, e4, b, e5, hq _ _ r⟩
      · rw [decide_eq_false g]
        refine iteT ?_
        have hx2 : hi < x := by
          rcases Nat.lt_or_ge hi x with z | z
          · exact z
          · exact absurd (up B.x1 z B.far) g
        refine ⟨_, rfl, _, _, rfl, rfl, W2 (c := n + 1) (d := 2) (by rw [Int.natAbs_natCast]; omega) (by decide) (by have := B.size; have h3 : (n + 2) * 2 ≤ (n + 2) * (st.length + 2) := Nat.mul_le_mul_left _ (by omega); omega), ⟨S4, hi * 2, by rw [Int.natCast_mul]; rfl, by omega, by omega, fun _ => by rw [Nat.mul_div_cancel _ (by decide)]; exact g⟩, ?_⟩
        show 2 * x - ((hi : Int) * 2).toNat < 2 * x - (hi : Int).toNat
        omega
    · rintro σ H' Q1 Q2 hq ⟨v1, h1, v2, h2, v3, h3, a, l', h', D', x', t', n', e1, e2, e3, e4, e5, e6, e7, q⟩
      exact ⟨v1, h1, v2, h2, v3, h3, a, l', h', D', x', t', n', e1, e2, e3, e4, e5, e6, e7, fun H2 s2 => by
        obtain ⟨c, hc, r⟩ := q H2 s2
        exact ⟨c, hc, hq _ _ r⟩⟩
def sp_below_of (K : PySem.W.Frag) : Sp := fun vs H Q _ => ∃ (N : List Addr) (v : V) (s : List (Int × Int)) (tb pb : Nat), vs = [v] ∧ Live N H ∧ Dp K (cut N H) v (sD s) ∧ Fit tb pb s ∧ pb * s.length + pb + tb ≤ 8000 ∧ s.length ≤ 1000 ∧ s ≠ [] ∧
  ∀ H', Same H H' → Q (.int (headN s : Int)) H'
/-- bits of a step, and how far it is bounded -/
structure BStep (s : List (Int × Int)) (tb pb x t n : Nat) : Prop where
  fit : Fit tb pb s
  z1 : pb * s.length + pb + tb ≤ 8000
  z2 : s.length ≤ 1000
  z3 : 2 ≤ s.length
  bd : BoundOk s x t n
end
end My

set_option Elab.async false
set_option linter.all false
set_option maxRecDepth 100000
set_option maxHeartbeats 4000000
set_option exponentiation.threshold 20000
namespace My
open PySem PySem.Spec PyProof.Rows L2 LamX
/-! ### the law's own bound -/
theorem fr_w (n : Int) : fr n 1 = (n, 1) := by
  unfold fr
  have : gc n 1 = 1 := by unfold gc; simp
  rw [this, Int.ediv_one]
  rfl
theorem qmul_w (a b : Int) : qmul (a, 1) (b, 1) = (a * b, 1) := by
  unfold qmul
  simp only [Int.mul_one]
  exact fr_w _
theorem low_w (a : Int) : Low (a, 1) := by
  rw [← fr_w]
  exact fr_low (by decide)
theorem cross {a b c d : Int} (hb : 0 < b) (hd : 0 < d) (h : (a : Rat) / b = (c : Rat) / d) : a * d = c * b := by
  have h1 := rat_ne hb
  have h2 := rat_ne hd
  apply Rat.intCast_inj.mp
  rw [Rat.intCast_mul, Rat.intCast_mul]
  have e1 : (a : Rat) = (a : Rat) / b * b := (Rat.div_mul_cancel h1).symm
  have e2 : (c : Rat) = (c : Rat) / d * d := (Rat.div_mul_cancel h2).symm
  rw [e1, e2, h]
  grind
theorem over_val {q : Int × Int} {D : Int} (h : 0 < q.2) (hd : q.2 ∣ D) : val q * (D : Rat) = ((q.1 * (D / q.2) : Int) : Rat) := by
  obtain ⟨k, rfl⟩ := hd
  rw [Int.mul_ediv_cancel_left _ (by omega)]
  unfold val
  rw [Rat.intCast_mul, Rat.intCast_mul]
  have h1 := rat_ne h
  have : (q.1 : Rat) / q.2 * ((q.2 : Rat) * k) = ((q.1 : Rat) / q.2 * q.2) * k := by grind
  rw [this, Rat.div_mul_cancel h1]
theorem over_pval {D : Int} (x : Rat) : ∀ r : List (Int × Int), (∀ q ∈ r, 0 < q.2 ∧ q.2 ∣ D) → pval (r.map val) x * (D : Rat) = iv (r.map fun q => q.1 * (D / q.2)) x
  | [], _ => by show (0 : Rat) * D = 0; grind
  | q :: r, h => by
    have ih := over_pval x r fun p hp => h p (List.mem_cons_of_mem _ hp)
    obtain ⟨h1, h2⟩ := h q List.mem_cons_self
    show (val q + x * pval (r.map val) x) * (D : Rat) = iv (q.1 * (D / q.2) :: r.map fun q => q.1 * (D / q.2)) x
    rw [iv_cons, ← over_val h1 h2, ← ih]
    grind
theorem iv_hornZ : ∀ (l : List Int) (x : Int), iv l (x : Rat) = ((hornZ l x : Int) : Rat)
  | [], x => rfl
  | t :: l, x => by
    rw [iv_cons, iv_hornZ l x]
    show _ = (((hornZ l x * x + t : Int)) : Rat)
    rw [Rat.intCast_add, Rat.intCast_mul]
    grind
def absQ (q : Int × Int) : Int × Int := ((q.1.natAbs : Int), q.2)
theorem lcm_bot {s : List (Int × Int)} {q : Int × Int} (hq : q ∈ s) : q.2 ∣ (lcmL s : Int) := by
  apply Int.natAbs_dvd_natAbs.mp
  rw [Int.natAbs_natCast]
  exact lcmL_dvd s q hq
theorem natL_eq {s : List (Int × Int)} (h : ∀ q ∈ s, 0 < q.2) : intsN (natL s) = s.map fun q => (absQ q).1 * ((lcmL s : Int) / (absQ q).2) := by
  unfold intsN natL tops
  rw [List.map_map, List.map_map]
  refine List.map_congr_left fun q hq => ?_
  show (((q.1 * ((lcmL s : Int) / q.2)).natAbs : Nat) : Int) = (q.1.natAbs : Int) * ((lcmL s : Int) / q.2)
  have h0 : 0 ≤ (lcmL s : Int) / q.2 := Int.ediv_nonneg (by omega) (by have := h q hq; omega)
  rw [Int.natAbs_mul, Int.natCast_mul, Int.natAbs_of_nonneg h0]
theorem restN_eq {s : List (Int × Int)} (h : ∀ q ∈ s, 0 < q.2) : intsN (restN s) = (s.take (s.length - 1)).map fun q => (absQ q).1 * ((lcmL s : Int) / (absQ q).2) := by
  unfold restN
  have e : intsN (natL s).dropLast = (intsN (natL s)).dropLast := by unfold intsN; rw [List.map_dropLast]
  rw [e, natL_eq h, List.map_take, List.dropLast_eq_take, List.length_map]
theorem headN_eq {s : List (Int × Int)} {q : Int × Int} (h : ∀ q ∈ s, 0 < q.2) (hq : s.getLast? = some q) : (headN s : Int) = (absQ q).1 * ((lcmL s : Int) / (absQ q).2) := by
  have e : (intsN (natL s)).getLast? = some ((absQ q).1 * ((lcmL s : Int) / (absQ q).2)) := by
    rw [natL_eq h, List.getLast?_map, hq]
    rfl
  unfold headN
  unfold intsN at e
  rw [List.getLast?_map] at e
  cases e2 : (natL s).getLast? with
  | none => rw [e2] at e; cases e
  | some z => rw [e2] at e; exact Option.some.inj e
/-- what the law compares, and what the program reckons -/
theorem size_less {s : List (Int × Int)} {q hi lo : Int × Int} {x : Nat} (h : ∀ q ∈ s, 0 < q.2) (hq : s.getLast? = some q) (h1 : 0 < hi.2) (h2 : 0 < lo.2) (e1 : val hi = val (absQ q) * (x : Rat) ^ (s.length - 1))
    (e2 : val lo = (x : Rat) + pval (((s.take (s.length - 1)).map absQ).map val) x) : (hi.1 * lo.2 < lo.1 * hi.2) ↔ ¬ Reach (restN s) (headN s) (lcmL s) x := by
  have hD := lcmL_pos s h
  have hD' : (0 : Int) < (lcmL s : Int) := by omega
  have Dr := rat_ne hD'
  have dd : ((lcmL s : Int) : Rat) / ((lcmL s : Int) : Rat) = 1 := by rw [Rat.div_def, Rat.mul_inv_cancel _ Dr]
  have qm := List.mem_of_getLast? hq
  have q0 : 0 < (absQ q).2 := h q qm
  have ex : ((x : Nat) : Rat) = ((x : Int) : Rat) := rfl
  have a1 : hi.1 * (lcmL s : Int) = ((headN s : Int) * (x : Int) ^ (s.length - 1)) * hi.2 := by
    refine cross h1 hD' ?_
    show val hi = _
    rw [e1, headN_eq h hq, Rat.intCast_mul, ← over_val q0 (show (absQ q).2 ∣ _ from lcm_bot (q := q) qm), Rat.intCast_pow, ex]
    have : val (absQ q) * ((lcmL s : Int) : Rat) * ((x : Int) : Rat) ^ (s.length - 1) / ((lcmL s : Int) : Rat) = val (absQ q) * ((x : Int) : Rat) ^ (s.length - 1) * (((lcmL s : Int) : Rat) / ((lcmL s : Int) : Rat)) := by
      rw [Rat.div_def, Rat.div_def]
      grind
    rw [this, dd, Rat.mul_one]
  have a2 : lo.1 * (lcmL s : Int) = ((lcmL s : Int) * x + hornZ (intsN (restN s)) x) * lo.2 := by
    refine cross h2 hD' ?_
    show val lo = _
    have o := over_pval (D := (lcmL s : Int)) ((x : Int) : Rat) ((s.take (s.length - 1)).map absQ) fun p hp => by
      obtain ⟨r, hr, rfl⟩ := List.mem_map.mp hp
      have := List.mem_of_mem_take hr
      exact ⟨h r this, (show (absQ r).2 ∣ _ from lcm_bot (q := r) this)⟩
    have er : List.map (fun q : Int × Int => q.1 * ((lcmL s : Int) / q.2)) ((s.take (s.length - 1)).map absQ) = intsN (restN s) := by
      rw [List.map_map]
      exact (restN_eq h).symm
    rw [er, iv_hornZ] at o
    rw [e2, Rat.intCast_add, ← o, Rat.intCast_mul, ex]
    generalize pval (((s.take (s.length - 1)).map absQ).map val) ((x : Int) : Rat) = pv
    have : (((lcmL s : Int) : Rat) * ((x : Int) : Rat) + pv * ((lcmL s : Int) : Rat)) / ((lcmL s : Int) : Rat) = (((x : Int) : Rat) + pv) * (((lcmL s : Int) : Rat) / ((lcmL s : Int) : Rat)) := by
      rw [Rat.div_def, Rat.div_def]
      grind
    rw [this, dd, Rat.mul_one]
  rw [hornZ_nat] at a2
  have rl : (restN s).length = s.length - 1 := restN_len s
  unfold Reach
  rw [rl]
  have ez : ∀ {a b : Int}, (a < b ↔ a * ((lcmL s : Int)) < b * (lcmL s : Int)) := fun {a b} => (Int.mul_lt_mul_right hD').symm
  rw [ez]
  have b1 : hi.1 * lo.2 * (lcmL s : Int) = ((headN s : Int) * (x : Int) ^ (s.length - 1)) * (hi.2 * lo.2) := by
    have : hi.1 * lo.2 * (lcmL s : Int) = hi.1 * (lcmL s : Int) * lo.2 := by rw [Int.mul_assoc, Int.mul_comm lo.2, ← Int.mul_assoc]
    rw [this, a1, Int.mul_assoc]
  have b2 : lo.1 * hi.2 * (lcmL s : Int) = ((lcmL s : Int) * x + ((hornN (restN s) x : Nat) : Int)) * (hi.2 * lo.2) := by
    have : lo.1 * hi.2 * (lcmL s : Int) = lo.1 * (lcmL s : Int) * hi.2 := by rw [Int.mul_assoc, Int.mul_comm hi.2, ← Int.mul_assoc]
    rw [this, a2, Int.mul_assoc, Int.mul_comm lo.2]
  rw [b1, b2, Int.mul_lt_mul_right (Int.mul_pos h1 h2)]
  have e3 : ((headN s * x ^ (s.length - 1) : Nat) : Int) = (headN s : Int) * (x : Int) ^ (s.length - 1) := by rw [Int.natCast_mul, Int.natCast_pow]
  have e4 : ((lcmL s * x : Nat) : Int) = (lcmL s : Int) * x := Int.natCast_mul _ _
  omega
theorem pow_bd {x : Int} {n : Nat} (h : x.natAbs < 2 ^ n) (k : Nat) : (x ^ k).natAbs < 2 ^ (n * k + 1) := by
  rw [Int.natAbs_pow]
  refine Nat.lt_of_le_of_lt (Nat.pow_le_pow_left (Nat.le_of_lt h) k) ?_
  rw [← Nat.pow_mul]
  exact Nat.pow_lt_pow_right (by decide) (by omega)
section
variable {P : Program} {w : World} {K : PySem.W.Frag} {mg : Str → Option Value} {base : Heap} {t1 t2 t3 : Tok} {f : Addr} {fd : FuncData} {ad : Ads}
def sp_law_powerW (K : PySem.W.Frag) : Sp := fun vs H Q _ => ∃ (N : List Addr) (v : V) (x : Int) (k n : Nat), vs = [v, .int (k : Int)] ∧ Live N H ∧ Dp K (cut N H) v (nD (x, 1)) ∧ x.natAbs < 2 ^ n ∧ k ≤ 100 ∧ n * (k + 1) ≤ 7000 ∧ Told K N H (nD (x ^ k, 1)) Q
theorem ok__law_power (F : Fun K "_law_power" "_law_power" s__law_power f fd) (T : Txt K mg t1 t2 t3) (C__law_mul : Ce P w K mg base CX0 3 "_law_mul" ["one", "other"] (sp_law_two qmul K)) : FnOk P w K mg base CX0 4 f fd ["worth", "many_so"] (sp_law_powerW K) := by
  /- WHEN many_so -/
  refine F.ok sc__law_power (fun vs H Q E h => ?_) (fun cdv A outer s H vs Q E hr h => ?_)
  · obtain ⟨N, v, x, k, n, rfl, _⟩ := h
    rfl
  · obtain ⟨N, v, x, m, n, rfl, l, hd, hx, hm, hz, k⟩ := h
    refine ⟨_, (pss_cons (ps_set (i := 2) sc__law_power.nd rfl (Or.inl rfl) (pe_tup (pa_cons pe_int (pa_cons pe_int pa_nil))))
      (pss_cons (ps_for PassesOwn.never rfl (pi_range1 rfl T.f_range (pa_cons (pv 1) pa_nil)) (pg_name (i := 3) sc__law_power.nd rfl (Or.inl rfl))
      (pss_one (ps_set (i := 2) sc__law_power.nd rfl (Or.inl rfl) (pe_ce C__law_mul (hr.mono (by decide)) pass0 (pa_cons (pv 2) (pa_cons (pv 0) pa_nil))))))
      (pss_one (ps_ret (pv 2))))), ?_⟩
    refine ⟨(by show 2 ≤ sizeLine; decide), fun p0 n0 => ?_⟩
    have s0 := same_new (o := .tup [V.int 1, V.int 1]) n0
    have d0 := new_num (K := K) (a := 1) (b := 1) l n0
    generalize upd H p0 (.tup [V.int 1, V.int 1]) = H0 at s0 d0 ⊢
    refine ⟨_, rfl, (m : Int), rfl, (by omega), (by omega), for_range (lo := 0) (n := m) (fun i σ H' => ∃ u o, σ = [some v, some (.int m), some u, o] ∧ Same H H' ∧ Dp K (cut N H') u (nD (x ^ i, 1))) ⟨_, _, rfl, s0, (by rw [Int.pow_zero]; exact d0)⟩ ?_ ?_⟩
    · rintro i σ H1 hi ⟨u, o, rfl, s1, d1⟩
      have b1 : Bd (n * i + 1) (x ^ i, 1) := ⟨by show (0 : Int) < 1; decide, pow_bd hx i, by show (1 : Nat) < 2 ^ (n * i + 1); exact Nat.lt_of_lt_of_le (show 1 < 2 ^ 1 by decide) (Nat.pow_le_pow_right (by decide) (by omega))⟩
      have b2 : Bd (n + 1) (x, 1) := ⟨by show (0 : Int) < 1; decide, Nat.lt_of_lt_of_le hx (Nat.pow_le_pow_right (by decide) (by omega)), by show (1 : Nat) < 2 ^ (n + 1); exact Nat.lt_of_lt_of_le (show 1 < 2 ^ 1 by decide) (Nat.pow_le_pow_right (by decide) (by omega))⟩
      have z1 : n * i + n * 1 ≤ n * (m + 1) := by rw [← Nat.mul_add]; exact Nat.mul_le_mul_left _ (by omega)
      refine ⟨_, rfl, _, rfl, N, u, v, _, _, _, _, rfl, l.same s1, d1, dp_ex hd s1, b1, b2, by omega, fun r H2 s2 h2 => ?_⟩
      rw [qmul_w, ← Int.pow_succ] at h2
      exact ⟨_, _, rfl, s1.trans s2, h2⟩
    · rintro σ H1 ⟨u, o, rfl, s1, d1⟩
      exact ⟨_, rfl, k u H1 s1 d1⟩
def sp_law_less (K : PySem.W.Frag) : Sp := fun vs H Q _ => ∃ (v u : V) (p q : Int × Int) (n : Nat), vs = [v, u] ∧ Dp K H v (nD p) ∧ Dp K H u (nD q) ∧ Bd n p ∧ Bd n q ∧ n ≤ 400000 ∧ Q (.bl (decide (p.1 * q.2 < q.1 * p.2))) H
theorem ok__law_less (F : Fun K "_law_less" "_law_less" s__law_less f fd) (T : Txt K mg t1 t2 t3) : FnOk P w K mg base CX0 1 f fd ["one", "other"] (sp_law_less K) := by
  refine F.ok sc__law_less (fun vs H Q E h => ?_) (fun cdv A outer s H vs Q E hr h => ?_)
  · obtain ⟨v, u, p, q, n, rfl, _⟩ := h
    rfl
  · obtain ⟨v, u, p, q, n, rfl, hp, hq, bp, bq, hn, k⟩ := h
    obtain ⟨a, rfl, hU⟩ := dp_num hp
    obtain ⟨b, rfl, hV⟩ := dp_num hq
    refine ⟨_, (pss_one (ps_ret (pe_cmpR op_lt (pe_op op_mulW (pe_ix ix_tup (pv 0) pe_int (fun _ _ => rfl)) (pe_ix ix_tup (pv 1) pe_int (fun _ _ => rfl))) (pe_op op_mulW (pe_ix ix_tup (pv 1) pe_int (fun _ _ => rfl)) (pe_ix ix_tup (pv 0) pe_int (fun _ _ => rfl))) (nomark _)))), ?_⟩
    exact ⟨_, rfl, a, _, 0, _, rfl, rfl, hU, rfl, _, rfl, b, _, 1, _, rfl, rfl, hV, rfl, _, _, rfl, rfl, W2 bp.top bq.bot (by omega), _, rfl, b, _, 0, _, rfl, rfl, hV, rfl, _, rfl, a, _, 1, _, rfl, rfl, hU, rfl, _, _, rfl, rfl, W2 bq.top bp.bot (by omega), _, _, rfl, rfl, k⟩
end
end My

set_option Elab.async false
set_option linter.all false
set_option maxRecDepth 100000
set_option maxHeartbeats 4000000
set_option exponentiation.threshold 20000
namespace My
open PySem PySem.Spec PyProof.Rows L2 LamX
theorem val_w (n : Int) : val (n, 1) = (n : Rat) := by
  unfold val
  show (n : Rat) / ((1 : Int) : Rat) = n
  have : ((1 : Int) : Rat) = 1 := rfl
  rw [this]
  grind
theorem absQ_bd {n : Nat} {q : Int × Int} (h : Bd n q) : Bd n (absQ q) := ⟨h.pos, by show ((q.1.natAbs : Nat) : Int).natAbs < _; rw [Int.natAbs_natCast]; exact h.top, h.bot⟩
theorem lastD {K : PySem.W.Frag} {H : Hp} {xs : List V} {s : List (Int × Int)} {q : Int × Int} (h : DpAll K H xs (s.map nD)) (hq : s.getLast? = some q) : ∃ y, atI xs (-1) = some y ∧ Dp K H y (nD q) := by
  have hne : s.map nD ≠ [] := by
    intro z
    have : s = [] := by simpa using z
    rw [this] at hq
    cases hq
  obtain ⟨y, h1, h2⟩ := last_at h hne
  rw [last_map hq] at h2
  exact ⟨y, h1, h2⟩
/-- the law's sum of the sizes of all but the head -/
def loQ (s : List (Int × Int)) (x : Int) : Nat → Int × Int
  | 0 => (x, 1)
  | i + 1 => qadd (loQ s x i) (qmul (absQ (s.getD i (0, 1))) (x ^ i, 1))
theorem loQ_ok {s : List (Int × Int)} {x : Int} {c : Nat} (hs : ∀ q ∈ s, Bd c q) (hc : c ≤ 20) (hx : x.natAbs < 2 ^ 64) (hl : s.length ≤ 9) : ∀ i, i < s.length → Bd (65 + 481 * i) (loQ s x i) ∧ val (loQ s x i) = (x : Rat) + pval (((s.take i).map absQ).map val) (x : Rat)
  | 0, _ => by
    refine ⟨⟨by show (0 : Int) < 1; decide, Nat.lt_trans hx (by decide), by show (1 : Nat) < _; decide⟩, ?_⟩
    show val (x, 1) = (x : Rat) + 0
    rw [val_w]
    grind
  | i + 1, h => by
    obtain ⟨b, e⟩ := loQ_ok hs hc hx hl i (by omega)
    have hi : i < s.length := by omega
    have eg : s.getD i (0, 1) = s[i] := by rw [List.getD_eq_getElem?_getD, List.getElem?_eq_getElem hi]; rfl
    have bq : Bd 20 (absQ (s.getD i (0, 1))) := absQ_bd (by rw [eg]; exact (hs _ (List.getElem_mem hi)).mono hc)
    have bp : Bd 460 (x ^ i, 1) := ⟨by show (0 : Int) < 1; decide, Nat.lt_of_lt_of_le (pow_bd hx i) (Nat.pow_le_pow_right (by decide) (by omega)), by show (1 : Nat) < _; decide⟩
    have bm := qmul_bd bq bp
    refine ⟨(qadd_bd b bm).mono (by omega), ?_⟩
    show val (qadd (loQ s x i) (qmul (absQ (s.getD i (0, 1))) (x ^ i, 1))) = _
    have et : s.take (i + 1) = s.take i ++ [s.getD i (0, 1)] := by rw [eg]; exact (List.take_append_getElem hi).symm
    rw [qadd_val b.pos bm.pos, qmul_val bq.pos bp.pos, val_w, e, et, List.map_append, List.map_append, Rat.intCast_pow]
    show _ = (x : Rat) + pval (List.map val (List.map absQ (List.take i s)) ++ [val (absQ (s.getD i (0, 1)))]) (x : Rat)
    rw [pval_snoc, List.length_map, List.length_map, List.length_take, Nat.min_eq_left (by omega)]
    grind
section
variable {P : Program} {w : World} {K : PySem.W.Frag} {mg : Str → Option Value} {base : Heap} {t1 t2 t3 : Tok} {f : Addr} {fd : FuncData} {ad : Ads}
def sp_law_size_at (K : PySem.W.Frag) : Sp := fun vs H Q _ => ∃ (N : List Addr) (v : V) (s : List (Int × Int)) (x c : Nat), vs = [v, .int (x : Int)] ∧ Live N H ∧ Dp K (cut N H) v (sD s) ∧ (∀ q ∈ s, Bd c q) ∧ c ≤ 20 ∧ 2 ≤ s.length ∧ s.length ≤ 9 ∧ x < 2 ^ 64 ∧
  ∀ hi lo : Int × Int, Bd 4500 hi → Bd 4500 lo → ((hi.1 * lo.2 < lo.1 * hi.2) ↔ ¬ Reach (restN s) (headN s) (lcmL s) x) → Told K N H (.tuple [nD hi, nD lo]) Q
theorem ok__law_size_at (F : Fun K "_law_size_at" "_law_size_at" s__law_size_at f fd) (T : Txt K mg t1 t2 t3) (C__law_add : Ce P w K mg base CX0 3 "_law_add" ["one", "other"] (sp_law_two qadd K)) (C__law_mul : Ce P w K mg base CX0 3 "_law_mul" ["one", "other"] (sp_law_two qmul K))
    (C__law_power : Ce P w K mg base CX0 4 "_law_power" ["worth", "many_so"] (sp_law_powerW K)) : FnOk P w K mg base CX0 5 f fd ["told", "wide"] (sp_law_size_at K) := by
  refine F.ok sc__law_size_at (fun vs H Q E h => ?_) (fun cdv A outer s H vs Q E hr h => ?_)
  · obtain ⟨N, v, st, x, c, rfl, _⟩ := h
    rfl
  · obtain ⟨N, v, st, x, c, rfl, l, hd, hs, hc, h2, h9, hx, k⟩ := h
    obtain ⟨a, xs, rfl, hS, hD⟩ := hd.tupI
    have hS' := seq_un hS
    have lx : xs.length = st.length := by rw [hD.length, List.length_map]
    have hxa : ((x : Int)).natAbs < 2 ^ 64 := by rw [Int.natAbs_natCast]; exact hx
    refine ⟨_, (pss_cons (ps_par (i := 4) (j := 5) (by rfl) sc__law_size_at.nd rfl rfl (by decide) rfl rfl (pa_cons (pe_tup (pa_cons (pv 1) (pa_cons pe_int pa_nil))) (pa_cons (pe_op op_sub (pe_callB call_len_seq (by rfl) T.f_len (by decide +kernel) (pa_cons (pv 0) pa_nil)) pe_int) pa_nil)) (by rfl))
      (pss_cons (ps_for PassesOwn.never rfl (pi_range1 rfl T.f_range (pa_cons (pv 5) pa_nil)) (pg_name (i := 2) sc__law_size_at.nd rfl (Or.inl rfl))
      (pss_cons (ps_set (i := 6) sc__law_size_at.nd rfl (Or.inl rfl) (pe_tup (pa_cons (pe_callB call_abs (by rfl) T.f_abs (by decide +kernel) (pa_cons (pe_ix ix_tup (pe_ix ix_tup (pv 0) (pv 2) (fun _ _ => rfl)) pe_int (fun _ _ => rfl)) pa_nil)) (pa_cons (pe_ix ix_tup (pe_ix ix_tup (pv 0) (pv 2) (fun _ _ => rfl)) pe_int (fun _ _ => rfl)) pa_nil))))
      (pss_one (ps_set (i := 4) sc__law_size_at.nd rfl (Or.inl rfl) (pe_ce C__law_add (hr.mono (by decide)) pass0 (pa_cons (pv 4) (pa_cons (pe_ce C__law_mul (hr.mono (by decide)) pass0 (pa_cons (pv 6) (pa_cons (pe_ce C__law_power (hr.mono (by decide)) pass0 (pa_cons (pe_tup (pa_cons (pv 1) (pa_cons pe_int pa_nil))) (pa_cons (pv 2) pa_nil))) pa_nil))) pa_nil)))))))
      (pss_cons (ps_set (i := 3) sc__law_size_at.nd rfl (Or.inl rfl) (pe_tup (pa_cons (pe_callB call_abs (by rfl) T.f_abs (by decide +kernel) (pa_cons (pe_ix ix_tup (pe_ix ix_tup (pv 0) (pe_un un_neg pe_int) (fun _ _ => rfl)) pe_int (fun _ _ => rfl)) pa_nil)) (pa_cons (pe_ix ix_tup (pe_ix ix_tup (pv 0) (pe_un un_neg pe_int) (fun _ _ => rfl)) pe_int (fun _ _ => rfl)) pa_nil))))
      (pss_one (ps_ret (pe_tup (pa_cons (pe_ce C__law_mul (hr.mono (by decide)) pass0 (pa_cons (pv 3) (pa_cons (pe_ce C__law_power (hr.mono (by decide)) pass0 (pa_cons (pe_tup (pa_cons (pv 1) (pa_cons pe_int pa_nil))) (pa_cons (pv 5) pa_nil))) pa_nil))) (pa_cons (pv 4) pa_nil)))))))), ?_⟩
    refine ⟨_, rfl, (by show 2 ≤ sizeLine; decide), fun p0 n0 => ?_⟩
    have s0 := same_new (o := .tup [V.int (x : Int), V.int 1]) n0
    have d0 := new_num (K := K) (a := (x : Int)) (b := 1) l n0
    generalize upd H p0 (.tup [V.int (x : Int), V.int 1]) = H0 at s0 d0 ⊢
    refine ⟨_, rfl, a, xs, rfl, .inr (seq_same s0 hS'), _, _, rfl, rfl, _, _, rfl, ?_⟩
    refine ⟨_, rfl, _, rfl, (by omega), (by omega), ?_⟩
    have en : (((xs.length : Nat) : Int) - 1).toNat = st.length - 1 := by omega
    rw [en]
    have power : ∀ (i : Nat) (H' : Hp) (Q' : VK) (p : Addr), Same H H' → H' p = none → i ≤ 8 → (∀ r H'', Same H H'' → Dp K (cut N H'') r (nD ((x : Int) ^ i, 1)) → Q' r H'') → sp_law_powerW K [.ref p, .int (i : Int)] (upd H' p (.tup [V.int (x : Int), V.int 1])) Q' E0 := fun i H' Q' p s' np hi q =>
      ⟨N, .ref p, x, i, 64, rfl, (l.same s').same (same_new np), new_num (l.same s') np, hxa, by omega, by omega, fun r H'' s'' h'' => q r H'' ((s'.trans (same_new np)).trans s'') h''⟩
    refine for_range (lo := 0) (n := st.length - 1) (fun i σ H' => ∃ u o1 o2, σ = [some (.ref a), some (.int (x : Int)), o1, none, some u, some (.int (((xs.length : Nat) : Int) - 1)), o2] ∧ Same H H' ∧ Dp K (cut N H') u (nD (loQ st x i))) ⟨_, _, _, rfl, s0, d0⟩ ?_ ?_
    · rintro i σ H1 hi ⟨u, o1, o2, rfl, s1, d1⟩
      have hil : i < st.length := by omega
      obtain ⟨lb, lv⟩ := loQ_ok (x := x) hs hc hxa h9 i hil
      have eg : st.getD i (0, 1) = st[i] := by rw [List.getD_eq_getElem?_getD, List.getElem?_eq_getElem hil]; rfl
      obtain ⟨y, hy, dy⟩ := (hD.ext (Same.cut N s1)).get (i := i) (d := nD (st.getD i (0, 1))) (by rw [List.getElem?_map, List.getElem?_eq_getElem hil, eg]; rfl)
      obtain ⟨b, rfl, hb⟩ := dp_num dy
      have ei : (0 : Int) + (i : Int) = (i : Int) := Int.zero_add _
      have ai : atI xs (0 + (i : Int)) = some (.ref b) := by rw [ei]; exact atI_nat hy
      refine ⟨_, rfl, _, rfl, a, xs, _, .ref b, rfl, rfl, seq_same s1 hS', ai, b, _, 0, _, rfl, rfl, seq_un hb, rfl, _, rfl, ?_⟩
      rw [abs_if]
      refine ⟨_, rfl, _, rfl, a, xs, _, .ref b, rfl, rfl, seq_same s1 hS', ai, b, _, 1, _, rfl, rfl, seq_un hb, rfl, (by show 2 ≤ sizeLine; decide), fun p2 n2 => ?_⟩
      have l1 := l.same s1
      have s2 := same_new (o := .tup [V.int ((st.getD i (0, 1)).1.natAbs : Int), V.int (st.getD i (0, 1)).2]) n2
      have d2 : Dp K (cut N (upd H1 p2 (.tup [V.int ((st.getD i (0, 1)).1.natAbs : Int), V.int (st.getD i (0, 1)).2]))) (.ref p2) (nD (absQ (st.getD i (0, 1)))) := new_tup l1 n2 dp_two
      have d1 := dp_ex d1 s2
      have S2 := s1.trans s2
      generalize upd H1 p2 (.tup [V.int ((st.getD i (0, 1)).1.natAbs : Int), V.int (st.getD i (0, 1)).2]) = H2 at s2 d1 d2 S2 ⊢
      refine ⟨_, rfl, _, rfl, _, rfl, (by show 2 ≤ sizeLine; decide), fun p3 n3 => ?_⟩
      have s3 := same_new (o := .tup [V.int (x : Int), V.int 1]) n3
      have d3 := new_num (K := K) (a := (x : Int)) (b := 1) (l.same S2) n3
      have S3 := S2.trans s3
      have d1 := dp_ex d1 s3
      have d2 := dp_ex d2 s3
      generalize upd H2 p3 (.tup [V.int (x : Int), V.int 1]) = H3 at s3 d3 S3 d1 d2 ⊢
      refine ⟨_, rfl, N, .ref p3, x, i, 64, (by show [_, V.int (0 + (i : Int))] = _; rw [ei]), l.same S3, d3, hxa, by omega, by omega, fun r4 H4 s4 h4 => ?_⟩
      have S4 := S3.trans s4
      have bq : Bd 20 (absQ (st.getD i (0, 1))) := absQ_bd (by rw [eg]; exact (hs _ (List.getElem_mem hil)).mono hc)
      have bp : Bd 460 ((x : Int) ^ i, 1) := ⟨by show (0 : Int) < 1; decide, Nat.lt_of_lt_of_le (pow_bd hxa i) (Nat.pow_le_pow_right (by decide) (by omega)), by show (1 : Nat) < _; decide⟩
      refine ⟨N, .ref p2, r4, _, _, 20, 460, rfl, l.same S4, dp_ex d2 s4, h4, bq, bp, by decide, fun r5 H5 s5 h5 => ?_⟩
      have S5 := S4.trans s5
      refine ⟨N, u, r5, _, _, _, _, rfl, l.same S5, dp_ex (dp_ex d1 s4) s5, h5, lb, qmul_bd bq bp, by omega, fun r6 H6 s6 h6 => ?_⟩
      exact ⟨_, _, _, rfl, S5.trans s6, h6⟩
    · rintro σ H1 ⟨u, o1, o2, rfl, s1, d1⟩
      obtain ⟨lb, lv⟩ := loQ_ok (x := x) hs hc hxa h9 (st.length - 1) (by omega)
      obtain ⟨qh, hqh⟩ := some_last (s := st) (by omega)
      obtain ⟨yl, hyl, dyl⟩ := lastD (hD.ext (Same.cut N s1)) hqh
      obtain ⟨b, rfl, hb⟩ := dp_num dyl
      have l1 := l.same s1
      refine ⟨_, rfl, _, rfl, a, xs, _, .ref b, rfl, rfl, seq_same s1 hS', hyl, b, _, 0, _, rfl, rfl, seq_un hb, rfl, _, rfl, ?_⟩
      rw [abs_if]
      refine ⟨_, rfl, _, rfl, a, xs, _, .ref b, rfl, rfl, seq_same s1 hS', hyl, b, _, 1, _, rfl, rfl, seq_un hb, rfl, (by show 2 ≤ sizeLine; decide), fun p2 n2 => ?_⟩
      have s2 := same_new (o := .tup [V.int (qh.1.natAbs : Int), V.int qh.2]) n2
      have d2 : Dp K (cut N (upd H1 p2 (.tup [V.int (qh.1.natAbs : Int), V.int qh.2]))) (.ref p2) (nD (absQ qh)) := new_tup l1 n2 dp_two
      have d1 := dp_ex d1 s2
      have S2 := s1.trans s2
      generalize upd H1 p2 (.tup [V.int (qh.1.natAbs : Int), V.int qh.2]) = H2 at s2 d1 d2 S2 ⊢
      refine ⟨_, rfl, _, rfl, (by show 2 ≤ sizeLine; decide), fun p3 n3 => ?_⟩
      have s3 := same_new (o := .tup [V.int (x : Int), V.int 1]) n3
      have d3 := new_num (K := K) (a := (x : Int)) (b := 1) (l.same S2) n3
      have S3 := S2.trans s3
      have d1 := dp_ex d1 s3
      have d2 := dp_ex d2 s3
      generalize upd H2 p3 (.tup [V.int (x : Int), V.int 1]) = H3 at s3 d3 S3 d1 d2 ⊢
      have es : ((xs.length : Nat) : Int) - 1 = ((st.length - 1 : Nat) : Int) := by omega
      refine ⟨_, rfl, N, .ref p3, x, st.length - 1, 64, (by show [_, V.int (((xs.length : Nat) : Int) - 1)] = _; rw [es]), l.same S3, d3, hxa, by omega, by omega, fun r4 H4 s4 h4 => ?_⟩
      have S4 := S3.trans s4
      have bq : Bd 20 (absQ qh) := absQ_bd ((hs qh (List.mem_of_getLast? hqh)).mono hc)
      have bp : Bd 600 ((x : Int) ^ (st.length - 1), 1) := ⟨by show (0 : Int) < 1; decide, Nat.lt_of_lt_of_le (pow_bd hxa (st.length - 1)) (Nat.pow_le_pow_right (by decide) (by omega)), by show (1 : Nat) < _; decide⟩
      refine ⟨N, .ref p2, r4, _, _, 20, 600, rfl, l.same S4, dp_ex d2 s4, h4, bq, bp, by decide, fun r5 H5 s5 h5 => ?_⟩
      refine ⟨_, rfl, (by show 2 ≤ sizeLine; decide), fun p6 n6 => ?_⟩
      have bm := qmul_bd bq bp
      have hp : ∀ q ∈ st, 0 < q.2 := fun q hq => (hs q hq).pos
      refine told_tup (k _ _ (bm.mono (by omega)) (lb.mono (by omega)) (size_less hp hqh bm.pos lb.pos ?_ lv)) l (S4.trans s5) n6 (.cons h5 (.cons (dp_ex (dp_ex d1 s4) s5) .nil))
      rw [qmul_val bq.pos bp.pos, val_w, Rat.intCast_pow]
      rfl
end
end My

set_option Elab.async false
set_option linter.all false
set_option maxRecDepth 100000
set_option maxHeartbeats 4000000
set_option exponentiation.threshold 20000
namespace My
open PySem PySem.Spec PyProof.Rows L2 LamX
/-! ### whole steps that are let -/
abbrev RchS (s : List (Int × Int)) (w : Nat) : Prop := Reach (restN s) (headN s) (lcmL s) w
structure WS (s : List (Int × Int)) (t : Nat) : Prop where
  one : ∀ q ∈ s, q.2 = 1
  big : ∀ q ∈ s, q.1.natAbs < 2 ^ t
  l2 : 2 ≤ s.length
  l9 : s.length ≤ 9
  lt : 2 < s.length ∨ 2 ≤ headN s
  hd : 1 ≤ headN s
  ok : isStep (sD s) = true
theorem lcm_one {s : List (Int × Int)} (h : ∀ q ∈ s, q.2 = 1) : lcmL s = 1 := by
  have d := lcmL_dvd_of (D := 1) s fun q hq => by rw [h q hq]; exact Nat.dvd_refl 1
  exact Nat.dvd_one.mp d
theorem tops_one {s : List (Int × Int)} (h : ∀ q ∈ s, q.2 = 1) : tops s = s.map Prod.fst := by
  unfold tops
  rw [lcm_one h]
  refine List.map_congr_left fun q hq => ?_
  rw [h q hq]
  show q.1 * (1 / 1) = q.1
  rw [show (1 : Int) / 1 = 1 from rfl, Int.mul_one]
theorem natL_one {s : List (Int × Int)} (h : ∀ q ∈ s, q.2 = 1) : natL s = s.map fun q => q.1.natAbs := by
  unfold natL
  rw [tops_one h, List.map_map]
  rfl
theorem sum_lt {B : Nat} : ∀ {l : List Nat}, (∀ z ∈ l, z < B) → l.sum ≤ l.length * B
  | [], _ => Nat.zero_le _
  | a :: l, h => by
    have ih := sum_lt (l := l) fun z hz => h z (List.mem_cons_of_mem _ hz)
    have := h a List.mem_cons_self
    show a + l.sum ≤ (l.length + 1) * B
    rw [Nat.add_mul]
    omega
theorem rest_mem {s : List (Int × Int)} {z : Nat} (h : z ∈ restN s) : z ∈ natL s := (List.dropLast_subset _ h)
theorem WS.nat {s : List (Int × Int)} {t : Nat} (W : WS s t) : ∀ z ∈ natL s, z < 2 ^ t := fun z hz => by
  rw [natL_one W.one] at hz
  obtain ⟨q, hq, rfl⟩ := List.mem_map.mp hz
  exact W.big q hq
def farW (s : List (Int × Int)) : Nat := 1 + (restN s).sum
theorem WS.far_lt {s : List (Int × Int)} {t : Nat} (W : WS s t) : farW s < 2 ^ (t + 4) := by
  have h := sum_lt fun z hz => W.nat z (rest_mem hz)
  have e := restN_len s
  have h9 := W.l9
  have h2 : (restN s).length * 2 ^ t ≤ 8 * 2 ^ t := Nat.mul_le_mul_right _ (by omega)
  have p := Nat.two_pow_pos t
  rw [Nat.pow_add]
  unfold farW
  show _ < 2 ^ t * 16
  omega
theorem WS.far {s : List (Int × Int)} {t : Nat} (W : WS s t) : RchS s (farW s) := by
  have e := restN_len s
  have h2 := W.l2
  have hd := W.hd
  unfold RchS
  rw [lcm_one W.one]
  rcases W.lt with z | z
  · exact reach_far (by omega) hd (by unfold farW; omega) (Nat.le_refl _)
  · by_cases c : 2 ≤ (restN s).length
    · exact reach_far c hd (by unfold farW; omega) (Nat.le_refl _)
    · obtain ⟨r, hr⟩ : ∃ r, restN s = [r] := List.length_eq_one_iff.mp (by omega)
      unfold farW
      rw [hr]
      show 1 * (1 + (r + 0)) + (0 * (1 + (r + 0)) + r) ≤ headN s * (1 + (r + 0)) ^ 1
      rw [Nat.pow_one]
      have := Nat.mul_le_mul_right (1 + (r + 0)) z
      omega
theorem homN_one (p : Nat) : ∀ l : List Nat, homN l p 1 = hornN l p
  | [] => rfl
  | t :: l => by
    show p * homN l p 1 + t * 1 ^ (l.length + 1) = hornN l p * p + t
    rw [homN_one p l, Nat.one_pow, Nat.mul_one, Nat.mul_comm]
theorem hornZ_abs (x : Int) : ∀ l : List Int, (hornZ l x).natAbs ≤ hornN (l.map Int.natAbs) x.natAbs
  | [] => Nat.le_refl _
  | t :: l => by
    show (hornZ l x * x + t).natAbs ≤ hornN (l.map Int.natAbs) x.natAbs * x.natAbs + t.natAbs
    have h1 := Int.natAbs_add_le (hornZ l x * x) t
    rw [Int.natAbs_mul] at h1
    have := Nat.mul_le_mul_right x.natAbs (hornZ_abs x l)
    omega
theorem WS.grow {s : List (Int × Int)} {t b : Nat} {x : Int} (W : WS s t) (b1 : 1 ≤ b) (r : RchS s b) (hx : b < x.natAbs) : x.natAbs < (hornZ (s.map Prod.fst) x).natAbs := by
  have e := restN_len s
  have h2 := W.l2
  have hst : s ≠ [] := by intro z; rw [z] at h2; simp at h2
  unfold RchS at r
  rw [lcm_one W.one] at r
  have st : x.natAbs + hornN (restN s) x.natAbs < headN s * x.natAbs ^ (restN s).length := by
    by_cases c : 2 ≤ (restN s).length
    · have := grow_nat (p := x.natAbs) (q := 1) c (Nat.le_refl 1) b1 (by omega) r
      rw [Nat.one_pow, homN_one] at this
      omega
    · have hh : 2 ≤ headN s := by
        rcases W.lt with z | z
        · omega
        · exact z
      obtain ⟨u, hu⟩ : ∃ u, restN s = [u] := List.length_eq_one_iff.mp (by omega)
      obtain ⟨k, hk⟩ : ∃ k, headN s = k + 2 := ⟨headN s - 2, by omega⟩
      rw [hu, hk] at r ⊢
      unfold Reach at r
      have r : 1 * b + (0 * b + u) ≤ (k + 2) * b ^ 1 := r
      show x.natAbs + (0 * x.natAbs + u) < (k + 2) * x.natAbs ^ 1
      rw [Nat.pow_one] at r ⊢
      have h3 : (k + 1) * b < (k + 1) * x.natAbs := Nat.mul_lt_mul_of_pos_left hx (by omega)
      have e1 : (k + 2) * b = (k + 1) * b + b := by rw [Nat.add_mul, Nat.add_mul]; omega
      have e2 : (k + 2) * x.natAbs = (k + 1) * x.natAbs + x.natAbs := by rw [Nat.add_mul, Nat.add_mul]; omega
      omega
  obtain ⟨c, hc⟩ : ∃ c, (s.map Prod.fst).getLast? = some c := ⟨_, List.getLast?_eq_some_getLast (by simpa using hst)⟩
  have sp : (s.map Prod.fst).dropLast ++ [c] = s.map Prod.fst := by
    have hne : s.map Prod.fst ≠ [] := by simpa using hst
    have := List.dropLast_concat_getLast hne
    rw [List.getLast?_eq_some_getLast hne] at hc
    cases hc
    exact this
  have eh : headN s = c.natAbs := by
    unfold headN natL
    rw [tops_one W.one, List.getLast?_map, hc]
    rfl
  have er : restN s = (s.map Prod.fst).dropLast.map Int.natAbs := by
    unfold restN natL
    rw [tops_one W.one, List.map_dropLast]
  have h4 := hornZ_abs x (s.map Prod.fst).dropLast
  rw [← er] at h4
  have e5 : hornZ (s.map Prod.fst) x = hornZ (s.map Prod.fst).dropLast x + x ^ (restN s).length * c := by
    conv => lhs; rw [← sp]
    rw [hornZ_app, er, List.length_map]
    show _ + _ * (0 * x + c) = _
    rw [Int.zero_mul, Int.zero_add]
  rw [e5]
  have e6 : (x ^ (restN s).length * c).natAbs = headN s * x.natAbs ^ (restN s).length := by
    rw [Int.natAbs_mul, Int.natAbs_pow, eh, Nat.mul_comm]
  omega
/-! ### the greatest of the bounds -/
def IsMax (ss : List (List (Int × Int))) (B : Nat) : Prop := ∃ bs : List Nat, bs.length = ss.length ∧ (∀ (i : Nat) (s : List (Int × Int)) (b : Nat), ss[i]? = some s → bs[i]? = some b → Least (RchS s) b) ∧ B = bs.foldl Nat.max 1
theorem IsMax.same {ss : List (List (Int × Int))} {A B : Nat} (h : IsMax ss A) (g : IsMax ss B) : A = B := by
  obtain ⟨bs, l1, h1, rfl⟩ := h
  obtain ⟨cs, l2, h2, rfl⟩ := g
  have : bs = cs := List.ext_getElem? fun i => by
    rcases Nat.lt_or_ge i ss.length with z | z
    · have a1 : i < bs.length := by omega
      have a2 : i < cs.length := by omega
      have p := h1 i _ _ (List.getElem?_eq_getElem z) (List.getElem?_eq_getElem a1)
      have q := h2 i _ _ (List.getElem?_eq_getElem z) (List.getElem?_eq_getElem a2)
      rw [List.getElem?_eq_getElem a1, List.getElem?_eq_getElem a2, p.same q]
    · rw [List.getElem?_eq_none_iff.mpr (by omega), List.getElem?_eq_none_iff.mpr (by omega)]
  rw [this]
theorem max_ge : ∀ (bs : List Nat) (c : Nat), c ≤ bs.foldl Nat.max c ∧ ∀ b ∈ bs, b ≤ bs.foldl Nat.max c
  | [], c => ⟨Nat.le_refl _, fun _ h => by cases h⟩
  | b :: bs, c => by
    obtain ⟨h1, h2⟩ := max_ge bs (Nat.max c b)
    refine ⟨Nat.le_trans (Nat.le_max_left c b) h1, fun d hd => ?_⟩
    rcases List.mem_cons.mp hd with z | z
    · subst z; exact Nat.le_trans (Nat.le_max_right c d) h1
    · exact h2 d z
theorem max_lt {X : Nat} : ∀ (bs : List Nat) (c : Nat), c < X → (∀ b ∈ bs, b < X) → bs.foldl Nat.max c < X
  | [], c, h, _ => h
  | b :: bs, c, h, g => max_lt bs (Nat.max c b) (Nat.max_lt.mpr ⟨h, g b List.mem_cons_self⟩) fun d hd => g d (List.mem_cons_of_mem _ hd)
theorem IsMax.ge {ss : List (List (Int × Int))} {B : Nat} (h : IsMax ss B) : 1 ≤ B ∧ ∀ s ∈ ss, ∃ b, Least (RchS s) b ∧ b ≤ B := by
  obtain ⟨bs, l1, h1, rfl⟩ := h
  obtain ⟨g1, g2⟩ := max_ge bs 1
  refine ⟨g1, fun s hs => ?_⟩
  obtain ⟨i, hi, e⟩ := List.mem_iff_getElem.mp hs
  have a1 : i < bs.length := by omega
  exact ⟨bs[i], h1 i s _ (by rw [List.getElem?_eq_getElem hi, e]) (List.getElem?_eq_getElem a1), g2 _ (List.getElem_mem a1)⟩
theorem least_le {P : Nat → Prop} {b X : Nat} (h : Least P b) (h1 : 1 ≤ X) (hX : P X) : b ≤ X := by
  rcases Nat.lt_or_ge X b with z | z
  · exact absurd hX (h.no X h1 z)
  · exact z
end My

set_option Elab.async false
set_option linter.all false
set_option maxRecDepth 100000
set_option maxHeartbeats 4000000
set_option exponentiation.threshold 20000
namespace My
open PySem PySem.Spec PyProof.Rows L2 LamX
/-! ### choices: what is let, the greatest bound -/
def isWhole (s : List (Int × Int)) : Bool := s.all fun q => decide (q.2 = 1)
def headZ (s : List (Int × Int)) : Int := (s.getLast?.getD (0, 1)).1
def isLet (s : List (Int × Int)) : Bool := isWhole s && (decide (2 < s.length) || decide (2 ≤ (headZ s).natAbs))
theorem foldl_max {bs : List Nat} {m : Nat} (h : m ∈ bs) (h1 : ∀ b ∈ bs, 1 ≤ b) (h2 : ∀ b ∈ bs, b ≤ m) : m = bs.foldl Nat.max 1 := by
  obtain ⟨g1, g2⟩ := max_ge bs 1
  have a := g2 m h
  have b := max_lt (X := m + 1) bs 1 (by have := h1 m h; omega) fun b hb => by have := h2 b hb; omega
  omega
section
variable {P : Program} {w : World} {K : PySem.W.Frag} {mg : Str → Option Value} {base : Heap} {t1 t2 t3 : Tok} {f : Addr} {fd : FuncData} {ad : Ads}
def sp_is_whole (K : PySem.W.Frag) : Sp := fun vs H Q _ => ∃ (v : V) (s : List (Int × Int)), vs = [v] ∧ Dp K H v (sD s) ∧ s.length ≤ 1000 ∧ ∀ H', Same H H' → Q (.bl (isWhole s)) H'
theorem ok_is_whole (F : Fun K "is_whole" "is_whole" s_is_whole f fd) (T : Txt K mg t1 t2 t3) : FnOk P w K mg base CX0 1 f fd ["step"] (sp_is_whole K) := by
  refine F.ok sc_is_whole (fun vs H Q E h => ?_) (fun cdv A outer s H vs Q E hr h => ?_)
  · obtain ⟨v, st, rfl, _⟩ := h
    rfl
  · obtain ⟨v, st, rfl, hd, hl, k⟩ := h
    obtain ⟨a, xs, rfl, hS, hD⟩ := hd.tupI
    have lx : xs.length = st.length := by rw [hD.length, List.length_map]
    refine ⟨_, (pss_one (ps_ret (pe_callB (cr_all rfl) (by rfl) T.f_all (by decide +kernel) (pa_cons (pe_lc (own := [("_", 1), ("bottom", 2)]) (g := gTup K 2 (gCons (gName 1) (gCons (gName 2) gNil))) rfl sc_is_whole.nd (pi_tup (pv 0)) (blkOk_by (N := ["step", "_", "bottom"]) (sc := defScope s_is_whole) (by decide +kernel)) (fun _ _ _ _ _ => by exact (pg_tup rfl (pgs_cons (pg_name (i := 1) sc_is_whole.nd rfl (Or.inl rfl)) (pgs_cons (pg_name (i := 2) sc_is_whole.nd rfl (Or.inl rfl)) pgs_nil)))) (fun _ _ _ _ _ => by exact pts_nil) (fun _ _ _ _ _ => by exact (pe_cmpR op_eq (pv 2) pe_int (nomark _)))) pa_nil)))), ?_⟩
    refine ⟨_, rfl, a, rfl, ⟨_, hS⟩, fun D hD' => ?_⟩
    refine lc_tup (K := K) (a := a) (xs := xs) (fun i H1 => H1 = upd H D (.lst ((st.take i).map fun q => V.bl (decide (q.2 = 1))))) rfl (fun i H1 _ h => h ▸ seq_same (same_new hD') hS) ?_ ?_
    · rintro i x H1 hx rfl
      obtain ⟨q, b, hq, rfl, hb⟩ := step_at hD hx
      have hi := (List.getElem?_eq_some_iff.mp hx).1
      refine ⟨b, _, rfl, seq_same (same_new hD') hb, rfl, _, _, rfl, _, _, rfl, rfl, rfl, ?_⟩
      dsimp only [tYes]
      rw [if_pos rfl]
      refine ⟨_, rfl, rfl, _, upd_same, ?_, ?_⟩
      · rw [List.length_map, List.length_take]
        exact small1000 (by omega)
      · rw [upd_upd, take_more hq, List.map_append]
        have ei : decide (V.int q.2 = V.int 1) = decide (q.2 = 1) := decide_eq_decide.mpr ⟨fun h => by injection h, fun h => by rw [h]⟩
        show upd H D (.lst (_ ++ [V.bl (decide (V.int q.2 = V.int 1))])) = _
        rw [ei]
        rfl
    · rintro H1 rfl
      rw [lx, List.take_length]
      refine ⟨D, st.map fun q => decide (q.2 = 1), rfl, .inl (.inl (by rw [upd_same, List.map_map]; rfl)), ?_⟩
      have eall : (st.map fun q => decide (q.2 = 1)).all id = isWhole st := by rw [List.all_map]; rfl
      rw [eall]
      exact k _ (same_new hD')
def sp_is_let (K : PySem.W.Frag) : Sp := fun vs H Q _ => ∃ (v : V) (s : List (Int × Int)), vs = [v] ∧ Dp K H v (sD s) ∧ s.length ≤ 1000 ∧ 1 ≤ s.length ∧ ∀ H', Same H H' → Q (.bl (isLet s)) H'
theorem ok_is_let (F : Fun K "is_let" "is_let" s_is_let f fd) (T : Txt K mg t1 t2 t3) (C_is_whole : Ce P w K mg base CX0 1 "is_whole" ["step"] (sp_is_whole K)) : FnOk P w K mg base CX0 2 f fd ["step"] (sp_is_let K) := by
  refine F.ok sc_is_let (fun vs H Q E h => ?_) (fun cdv A outer s H vs Q E hr h => ?_)
  · obtain ⟨v, st, rfl, _⟩ := h
    rfl
  · obtain ⟨v, st, rfl, hd, hl, hne, k⟩ := h
    refine ⟨_, (pss_one (ps_ret (pe_and (pe_ce C_is_whole (hr.mono (by decide)) pass0 (pa_cons (pv 0) pa_nil)) (pe_one (pe_or (pe_cmpR op_gt (pe_callB call_len_seq (by rfl) T.f_len (by decide +kernel) (pa_cons (pv 0) pa_nil)) pe_int (nomark _)) (pe_one (pe_cmpR op_ge (pe_callB call_abs (by rfl) T.f_abs (by decide +kernel) (pa_cons (pe_ix ix_tup (pe_ix ix_tup (pv 0) (pe_un un_neg pe_int) (fun _ _ => rfl)) pe_int (fun _ _ => rfl)) pa_nil)) pe_int (nomark _)))))))), ?_⟩
    refine ⟨_, rfl, v, st, rfl, hd, hl, fun H1 s1 => ⟨isWhole st, rfl, ?_⟩⟩
    unfold isLet at k
    cases e : isWhole st with
    | false =>
      rw [e] at k
      exact k H1 s1
    | true =>
      rw [e, Bool.true_and] at k
      obtain ⟨a, xs, rfl, hS, hD⟩ := hd.tupI
      have lx : xs.length = st.length := by rw [hD.length, List.length_map]
      refine iteT ?_
      refine ⟨_, rfl, a, xs, rfl, .inr (seq_same s1 hS), _, _, rfl, rfl, _, rfl, ?_⟩
      by_cases c : (2 : Int) < (xs.length : Int)
      · rw [decide_eq_true c]
        rw [decide_eq_true (show 2 < st.length by omega), Bool.true_or] at k
        exact iteT (k H1 s1)
      · rw [decide_eq_false c]
        rw [decide_eq_false (show ¬ 2 < st.length by omega), Bool.false_or] at k
        refine iteF ?_
        obtain ⟨qh, hqh⟩ := some_last (s := st) hne
        obtain ⟨yl, hyl, dyl⟩ := lastD (hD.ext s1) hqh
        obtain ⟨b, rfl, hb⟩ := dp_num dyl
        refine ⟨_, rfl, _, rfl, a, xs, _, .ref b, rfl, rfl, seq_same s1 hS, hyl, b, _, 0, _, rfl, rfl, hb, rfl, _, rfl, ?_⟩
        rw [abs_if]
        refine ⟨_, _, rfl, rfl, ?_⟩
        have eh : headZ st = qh.1 := by unfold headZ; rw [hqh]; rfl
        rw [eh] at k
        have e2 : decide ((2 : Int) ≤ (qh.1.natAbs : Int)) = decide (2 ≤ qh.1.natAbs) := decide_eq_decide.mpr (by omega)
        show Q (V.bl (decide ((2 : Int) ≤ (qh.1.natAbs : Int)))) H1
        rw [e2]
        exact k H1 s1
def sp_need_choices (ad : Ads) (K : PySem.W.Frag) : Sp := fun vs H Q E => ∃ (N : List Addr) (v : V) (d : PyData), vs = [v] ∧ Live N H ∧ Dp K (cut N H) v d ∧
  ((∃ e, rowOut d = .er .row e ∧ ToldX K ad N H (.er .row e) Q E) ∨ ∃ rs, d = rowD rs ∧ GoodRow rs ∧ ((∃ i : Nat, rs.findIdx? (fun s => !isLet s) = some i ∧ ToldX K ad N H (.er .row (.tuple [.int (i : Int)])) Q E) ∨ (rs.findIdx? (fun s => !isLet s) = none ∧ ∀ H', Same H H' → Q .non H')))
theorem ok_need_choices (F : Fun K "need_choices" "need_choices" s_need_choices f fd) (T : Txt K mg t1 t2 t3) (XS : Exs P w K mg base ad) (C_need_row : Ce P w K mg base (L2.CX P w) 5 "need_row" ["value"] (sp_out1 rowOut ad K)) (C_is_let : Ce P w K mg base CX0 2 "is_let" ["step"] (sp_is_let K)) :
    FnOk P w K mg base (L2.CX P w) 6 f fd ["steps"] (sp_need_choices ad K) := by
  refine F.okX sc_need_choices (fun vs H Q E h => ?_) (fun cdv A outer s H vs Q E hr h => ?_)
  · obtain ⟨N, v, d, rfl, _⟩ := h
    rfl
  · obtain ⟨N, v, d, rfl, l, hd, k⟩ := h
    refine ⟨_, (pss_cons (ps_expr (pe_ce C_need_row (hr.mono (by decide)) passX (pa_cons (pv 0) pa_nil)))
      (pss_one (ps_for (passes_of rfl) rfl (pi_enumT (by rfl) T.f_enumerate (pa_cons (pv 0) pa_nil)) (pg_tup rfl (pgs_cons (pg_name (i := 1) sc_need_choices.nd rfl (Or.inl rfl)) (pgs_cons (pg_name (i := 2) sc_need_choices.nd rfl (Or.inl rfl)) pgs_nil)))
      (pss_one (ps_if (pt_not (pt_val (pe_ce C_is_let (hr.mono (by decide)) pass0 (pa_cons (pv 2) pa_nil)))) (pss_one (ps_raise rfl (takes_of rfl rfl rfl rfl) (pmk_ec XS.x_BadRow hr (pa_cons (pe_tup (pa_cons (pv 1) pa_nil)) pa_nil)))) pss_nil))))), ?_⟩
    refine ⟨_, rfl, N, v, d, rfl, l, hd, ?_⟩
    rcases k with ⟨e, he, k⟩ | ⟨rs, rfl, g, k⟩
    · rw [he]
      exact k
    rw [rowOut_row g.one g.most g.step]
    intro u H1 s1 hu
    obtain ⟨a, xs, rfl, hS, hD⟩ := (dp_ex hd s1).tupI
    have lx : xs.length = rs.length := by rw [hD.length, List.length_map]
    have hS' := seq_un hS
    refine ⟨_, rfl, a, xs, rfl, hS', for_enumT (K := K) (a := a) (xs := xs) (fun i σ H' => Same H1 H' ∧ (∀ j, j < i → ∀ e, rs[j]? = some e → isLet e = true) ∧ ∃ o1 o2, σ = [some (.ref a), o1, o2])
      ⟨Same.refl H1, fun j hj => absurd hj (Nat.not_lt_zero j), _, _, rfl⟩ (fun i σ H' h => seq_same h.1 hS') ?_ ?_⟩
    · rintro i x σ H' hx ⟨S1, hall, o1, o2, rfl⟩ T1 nT
      obtain ⟨e0, h0, h2⟩ := hD.get' hx
      obtain ⟨e, h1, rfl⟩ := map_get h0
      have ln := isStep_len (g.step e (mem_of_get h1))
      have S2 := S1.trans (same_new (o := .tup [.int (i : Nat), x]) nT)
      refine ⟨T1, _, rfl, .inl (.inl upd_same), rfl, _, _, rfl, _, _, rfl, rfl, ?_⟩
      refine ⟨_, rfl, x, e, rfl, (h2.ext (Same.cut N S2)).un, by omega, by omega, fun H3 s3 => ⟨isLet e, rfl, ?_⟩⟩
      have S3 := S2.trans s3
      cases es : isLet e with
      | true =>
        refine ⟨S3, fun j hj y hy => ?_, _, _, rfl⟩
        by_cases z : j = i
        · subst z
          rw [h1] at hy
          cases hy
          exact es
        · exact hall j (by omega) y hy
      | false =>
        have hi := (List.getElem?_eq_some_iff.mp h1).1
        have ef : rs.findIdx? (fun s => !isLet s) = some i := by
          rw [List.findIdx?_eq_some_iff_getElem]
          refine ⟨hi, ?_, fun j hj => ?_⟩
          · have := (List.getElem?_eq_some_iff.mp h1).2
            rw [this, es]
            rfl
          · have hj2 : j < rs.length := by omega
            have := hall j hj _ (List.getElem?_eq_getElem hj2)
            rw [this]
            decide
        rcases k with ⟨i', hi', k⟩ | ⟨hi', _⟩
        · rw [ef] at hi'
          cases hi'
          refine ⟨_, rfl, (by show 1 ≤ sizeLine; decide), fun p hp => ?_⟩
          have np := (l.same (s1.trans S3)).new hp
          exact mk_fill XS.x_BadRow fun q hq => told_er k l ((s1.trans S3).trans (same_new hp)) hq (.tup (.inl (.inl (cut_at np upd_same))) (.cons (.int _) .nil))
        · rw [ef] at hi'
          cases hi'
    · rintro σ H' ⟨S1, hall, o1, o2, rfl⟩
      have ef : rs.findIdx? (fun s => !isLet s) = none := by
        rw [List.findIdx?_eq_none_iff]
        intro e he
        obtain ⟨j, hj, e2⟩ := List.mem_iff_getElem.mp he
        have := hall j (by omega) e (by rw [List.getElem?_eq_getElem hj, e2])
        rw [this]
        rfl
      rcases k with ⟨i', hi', k⟩ | ⟨hi', k⟩
      · rw [ef] at hi'
        cases hi'
      · exact k H' (s1.trans S1)
def sp_bound_of_all (K : PySem.W.Frag) : Sp := fun vs H Q _ => ∃ (N : List Addr) (v : V) (ss : List (List (Int × Int))) (t : Nat), vs = [v] ∧ Live N H ∧ Dp K (cut N H) v (rowD ss) ∧ ss ≠ [] ∧ ss.length ≤ 9 ∧ (∀ s ∈ ss, WS s t) ∧ t ≤ 300 ∧ ∀ (B : Nat) (H' : Hp), Same H H' → IsMax ss B → Q (.int (B : Int)) H'
theorem ok_bound_of_all (F : Fun K "bound_of_all" "bound_of_all" s_bound_of_all f fd) (T : Txt K mg t1 t2 t3) (C_bound_of : Ce P w K mg base CX0 2 "bound_of" ["step"] (sp_bound_of K)) : FnOk P w K mg base CX0 3 f fd ["steps"] (sp_bound_of_all K) := by
  refine F.ok sc_bound_of_all (fun vs H Q E h => ?_) (fun cdv A outer s H vs Q E hr h => ?_)
  · obtain ⟨N, v, ss, t, rfl, _⟩ := h
    rfl
  · obtain ⟨N, v, ss, t, rfl, l, hd, hne, hl, hs, ht, k⟩ := h
    obtain ⟨a, xs, rfl, hS, hD⟩ := hd.tupI
    have lx : xs.length = ss.length := by rw [hD.length, List.length_map]
    have hS' := seq_un hS
    refine ⟨_, (pss_one (ps_ret (pe_callB (cr_max rfl) (by rfl) T.f_max (by decide +kernel) (pa_cons (pe_lc (own := [("step", 1)]) (g := gName 1) rfl sc_bound_of_all.nd (pi_tup (pv 0)) (blkOk_by (N := ["steps", "step"]) (sc := defScope s_bound_of_all) (by decide +kernel)) (fun _ _ _ _ _ => by exact (pg_name (i := 1) sc_bound_of_all.nd rfl (Or.inl rfl))) (fun _ _ _ _ _ => by exact pts_nil) (fun _ _ _ _ _ => by exact (pe_ce C_bound_of (hr.mono (by decide)) pass0 (pa_cons (pv 1) pa_nil)))) pa_nil)))), ?_⟩
    refine ⟨_, rfl, a, rfl, ⟨_, hS'⟩, fun D hD' => ?_⟩
    refine lc_tup (K := K) (a := a) (xs := xs) (fun i H' => Same H H' ∧ ∃ bs : List Nat, H' D = some (.lst ((intsN bs).map V.int)) ∧ bs.length = i ∧ (∀ (j : Nat) (s : List (Int × Int)) (b : Nat), ss[j]? = some s → bs[j]? = some b → Least (RchS s) b))
      ⟨same_new hD', [], upd_same, rfl, fun j q x h1 h2 => by cases h2⟩ (fun i H' _ h => seq_same h.1 hS') ?_ ?_
    · rintro i x H' hx ⟨s1, bs, e1, el, hb⟩
      obtain ⟨e0, h0, h2⟩ := hD.get' hx
      obtain ⟨st, h1, rfl⟩ := map_get h0
      have hi := (List.getElem?_eq_some_iff.mp h1).1
      have W := hs st (mem_of_get h1)
      have l9 := W.l9
      have fit : Fit t 1 st := ⟨fun q hq => by rw [W.one q hq]; decide, W.big, fun q hq => by rw [W.one q hq]; decide⟩
      have bo : BoundOk st (farW st) (t + 1) (t + 4) := ⟨by unfold farW; omega, W.far_lt, W.far, fun z hz => Nat.lt_of_lt_of_le (W.nat z hz) (Nat.pow_le_pow_right (by decide) (by omega)),
        by rw [lcm_one W.one, Nat.pow_succ]; have := Nat.two_pow_pos t; omega, by have : (t + 4 + 2) * (st.length + 2) ≤ 306 * 11 := Nat.mul_le_mul (by omega) (by omega); omega⟩
      refine ⟨rfl, _, rfl, N, x, st, t, 1, farW st, t + 1, t + 4, rfl, l.same s1, h2.ext (Same.cut N s1), fit, by omega, by omega, W.l2, bo, fun b H2 s2 hb2 => ?_⟩
      have g2 := s2 _ _ e1
      refine ⟨_, g2, ?_, fun p o e => ?_, bs ++ [b], ?_, by rw [List.length_append, el]; rfl, fun j y z h3 h4 => ?_⟩
      · rw [List.length_map, intsN_len]
        exact small1000 (by omega)
      · rw [upd_ne (ne_of_none e hD')]
        exact s2 _ _ (s1 _ _ e)
      · rw [upd_same, intsN_app, List.map_append]
        rfl
      · by_cases c : j < bs.length
        · rw [List.getElem?_append_left c] at h4
          exact hb j y z h3 h4
        · have hj := (List.getElem?_eq_some_iff.mp h4).1
          rw [List.length_append] at hj
          have hj2 : j = i := by
            have : [b].length = 1 := rfl
            omega
          subst hj2
          rw [h1] at h3
          cases h3
          rw [List.getElem?_append_right (by omega), el, Nat.sub_self] at h4
          cases h4
          exact hb2
    · rintro H' ⟨s1, bs, e1, el, hb⟩
      have nb : 1 ≤ ss.length := List.length_pos_iff.mpr hne
      have ge1 : ∀ b ∈ bs, 1 ≤ b := fun b hbm => by
        obtain ⟨j, hj, e⟩ := List.mem_iff_getElem.mp hbm
        have hj2 : j < ss.length := by omega
        exact (hb j _ b (List.getElem?_eq_getElem hj2) (by rw [List.getElem?_eq_getElem hj, e])).one
      refine ⟨D, intsN bs, rfl, .inl (.inl e1), by rw [intsN_len]; omega, fun m hm hy => ?_⟩
      obtain ⟨b, hbm, rfl⟩ := List.mem_map.mp hm
      refine k b H' s1 ⟨bs, by omega, hb, foldl_max hbm ge1 fun c hc => ?_⟩
      have := hy (c : Int) (List.mem_map.mpr ⟨c, hc, rfl⟩)
      exact Int.ofNat_le.mp this
def sp_choice_bound (ad : Ads) (K : PySem.W.Frag) : Sp := fun vs H Q E => ∃ (N : List Addr) (v : V) (d : PyData), vs = [v] ∧ Live N H ∧ Dp K (cut N H) v d ∧
  ((∃ e, rowOut d = .er .row e ∧ ToldX K ad N H (.er .row e) Q E) ∨ ∃ rs, d = rowD rs ∧ GoodRow rs ∧ ((∃ i : Nat, rs.findIdx? (fun s => !isLet s) = some i ∧ ToldX K ad N H (.er .row (.tuple [.int (i : Int)])) Q E) ∨
    (rs.findIdx? (fun s => !isLet s) = none ∧ ∃ t : Nat, (∀ s ∈ rs, WS s t) ∧ t ≤ 300 ∧ ∀ (B : Nat) (H' : Hp), Same H H' → IsMax rs B → Q (.int (B : Int)) H')))
end
end My

set_option Elab.async false
set_option linter.all false
set_option maxRecDepth 100000
set_option maxHeartbeats 4000000
set_option exponentiation.threshold 20000
namespace My
open PySem PySem.Spec PyProof.Rows L2
/-! ### rests of numbers -/
/-- x is the rest of the number q -/
structure IsRest (m : Int) (q : Int × Int) (x : Int) : Prop where
  lo : 0 ≤ x
  hi : x < m
  dv : m ∣ x * q.2 - q.1
theorem cop_dvd {m b k : Int} (h : Nat.gcd b.natAbs m.natAbs = 1) (d : m ∣ k * b) : m ∣ k := by
  have d' : m.natAbs ∣ k.natAbs * b.natAbs := by
    rw [← Int.natAbs_mul]
    exact Int.natAbs_dvd_natAbs.mpr d
  have h' : Nat.Coprime m.natAbs b.natAbs := by
    unfold Nat.Coprime
    rw [Nat.gcd_comm]
    exact h
  exact Int.natAbs_dvd_natAbs.mp (h'.dvd_of_dvd_mul_right d')
theorem IsRest.one {m : Int} {q : Int × Int} {x y : Int} (h : Nat.gcd q.2.natAbs m.natAbs = 1) (a : IsRest m q x) (b : IsRest m q y) : x = y := by
  have d : m ∣ (x - y) * q.2 := by
    have e : (x - y) * q.2 = (x * q.2 - q.1) - (y * q.2 - q.1) := by
      rw [Int.sub_mul]
      omega
    rw [e]
    exact Int.dvd_sub a.dv b.dv
  have d2 := cop_dvd h d
  obtain ⟨c, hc⟩ := d2
  have a1 := a.lo
  have a2 := a.hi
  have b1 := b.lo
  have b2 := b.hi
  have m0 : 0 < m := by omega
  have c1 : m * c < m * 1 := by omega
  have c2 : m * (-1) < m * c := by omega
  have c3 := Int.lt_of_mul_lt_mul_left c1 (Int.le_of_lt m0)
  have c4 := Int.lt_of_mul_lt_mul_left c2 (Int.le_of_lt m0)
  have : c = 0 := by omega
  rw [this] at hc
  omega
/-- the number whose product with b leaves 1 -/
structure IsInv (m b x : Int) : Prop where
  lo : 0 ≤ x
  hi : x < m
  dv : m ∣ x * b - 1
theorem IsInv.rest {m a b x : Int} (h : IsInv m b x) (m0 : 0 < m) : IsRest m (a, b) ((a * x) % m) := by
  refine ⟨Int.emod_nonneg _ (by omega), Int.emod_lt_of_pos _ m0, ?_⟩
  show m ∣ (a * x) % m * b - a
  have e : (a * x) % m = a * x - m * ((a * x) / m) := Int.emod_def _ _
  rw [e]
  have e2 : (a * x - m * ((a * x) / m)) * b - a = a * (x * b - 1) - m * (((a * x) / m) * b) := by
    rw [Int.sub_mul, Int.mul_sub, Int.mul_one]
    have : a * x * b = a * (x * b) := Int.mul_assoc _ _ _
    have : m * (a * x / m) * b = m * ((a * x / m) * b) := Int.mul_assoc _ _ _
    omega
  rw [e2]
  exact Int.dvd_sub (Int.dvd_trans h.dv (Int.dvd_mul_left _ _)) (Int.dvd_mul_right _ _)
def hornI (ns : List Int) (x : Int) : Int := ns.foldr (fun t f => f * x + t) 0
theorem hornI_bd {t n : Nat} {x : Int} (hx : x.natAbs < 2 ^ n) : ∀ {ns : List Int}, (∀ z ∈ ns, z.natAbs < 2 ^ t) → (hornI ns x).natAbs < 2 ^ (t + (n + 1) * ns.length)
  | [], _ => by
    show (0 : Int).natAbs < _
    exact Nat.two_pow_pos _
  | z :: ns, h => by
    have ih := hornI_bd hx (ns := ns) fun y hy => h y (List.mem_cons_of_mem _ hy)
    have hz := h z List.mem_cons_self
    show (hornI ns x * x + z).natAbs < _
    have h1 : (hornI ns x * x).natAbs < 2 ^ (t + (n + 1) * ns.length + n) := by
      rw [Int.natAbs_mul, Nat.pow_add]
      exact Nat.mul_lt_mul'' ih hx
    have h2 : z.natAbs < 2 ^ (t + (n + 1) * ns.length + n) := Nat.lt_of_lt_of_le hz (Nat.pow_le_pow_right (by decide) (by omega))
    have h3 := Int.natAbs_add_le (hornI ns x * x) z
    have e : t + (n + 1) * (z :: ns).length = t + (n + 1) * ns.length + n + 1 := by rw [List.length_cons, Nat.mul_add]; omega
    rw [e, Nat.pow_succ]
    omega
section
variable {P : Program} {w : World} {K : PySem.W.Frag} {mg : Str → Option Value} {base : Heap} {t1 t2 t3 : Tok} {f : Addr} {fd : FuncData} {ad : Ads}
def sp_integer_at (K : PySem.W.Frag) : Sp := fun vs H Q _ => ∃ (a : Addr) (ns : List Int) (x : Int) (t n : Nat), vs = [.ref a, .int x] ∧ SqL K H a (ns.map V.int) ∧ (∀ z ∈ ns, z.natAbs < 2 ^ t) ∧ x.natAbs < 2 ^ n ∧ t + (n + 1) * ns.length ≤ 400000 ∧ Q (.int (hornI ns x)) H
theorem ok_integer_at (F : Fun K "integer_at" "integer_at" s_integer_at f fd) (T : Txt K mg t1 t2 t3) : FnOk P w K mg base CX0 1 f fd ["tops", "number"] (sp_integer_at K) := by
  refine F.ok sc_integer_at (fun vs H Q E h => ?_) (fun cdv A outer s H vs Q E hr h => ?_)
  · obtain ⟨a, ns, x, t, n, rfl, _⟩ := h
    rfl
  · obtain ⟨a, ns, x, t, n, rfl, hS, ht, hx, hz, k⟩ := h
    refine ⟨_, (pss_cons (ps_set (i := 2) sc_integer_at.nd rfl (Or.inl rfl) pe_int)
      (pss_cons (ps_for PassesOwn.never rfl (pi_reversed (by rfl) T.f_reversed (pa_cons (pv 0) pa_nil)) (pg_name (i := 3) sc_integer_at.nd rfl (Or.inl rfl))
      (pss_one (ps_set (i := 2) sc_integer_at.nd rfl (Or.inl rfl) (pe_op op_add (pe_op op_mulW (pv 2) (pv 1)) (pv 3)))))
      (pss_one (ps_ret (pv 2))))), ?_⟩
    refine ⟨_, rfl, a, _, rfl, hS, for_rev (K := K) (a := a) (xs := ns.map V.int) (fun i σ H' => H' = H ∧ ∃ o, σ = [some (.ref a), some (.int x), some (.int (hornI (ns.drop (ns.length - i)) x)), o])
      ⟨rfl, _, by rw [Nat.sub_zero, List.drop_length]; rfl⟩ (fun i σ H' h => h.1 ▸ hS) ?_ ?_⟩
    · rintro i y σ H' hi hy ⟨rfl, o, rfl⟩
      rw [List.length_map] at hi hy
      rw [List.getElem?_map] at hy
      obtain ⟨z, hz1, hz2⟩ : ∃ z, ns[ns.length - 1 - i]? = some z ∧ y = .int z := by
        cases e : ns[ns.length - 1 - i]? with
        | none => rw [e] at hy; cases hy
        | some z => rw [e] at hy; exact ⟨z, rfl, (Option.some.inj hy).symm⟩
      subst hz2
      have hd : ns.drop (ns.length - (i + 1)) = z :: ns.drop (ns.length - i) := by
        obtain ⟨h1, h2⟩ := List.getElem?_eq_some_iff.mp hz1
        have e1 : ns.length - (i + 1) = ns.length - 1 - i := by omega
        have e2 : ns.length - i = ns.length - 1 - i + 1 := by omega
        rw [e1, e2, List.drop_eq_getElem_cons h1, h2]
      have hb := hornI_bd hx (ns := ns.drop (ns.length - i)) fun y hy => ht y (List.mem_of_mem_drop hy)
      have hl : (ns.drop (ns.length - i)).length ≤ ns.length := by rw [List.length_drop]; omega
      have hm := Nat.mul_le_mul_left (n + 1) hl
      have hn : n + 1 ≤ (n + 1) * ns.length := Nat.le_mul_of_pos_right _ (by omega)
      refine ⟨_, rfl, _, rfl, _, _, rfl, rfl, W2 hb hx (by omega), _, rfl, _, _, rfl, rfl, rfl, some (.int z), ?_⟩
      rw [hd]
      rfl
    · rintro σ H' ⟨rfl, o, rfl⟩
      rw [List.length_map, Nat.sub_self, List.drop_zero]
      exact ⟨_, rfl, k⟩
def modOk (d : PyData) : Bool := match d with
  | .int n => decide (2 ≤ n ∧ n ≤ 2000)
  | _ => false
def restOk (m : Int) (d : PyData) : Bool := match d with
  | .int n => decide (0 ≤ n ∧ n < m)
  | _ => false
theorem isI_of {d : PyData} (h : isI d = true) : ∃ n, d = .int n := by
  cases d with
  | int n => exact ⟨n, rfl⟩
  | _ => cases h
def sp_need_modulo (ad : Ads) (K : PySem.W.Frag) : Sp := fun vs H Q E => ∃ (N : List Addr) (v : V) (d : PyData), vs = [v] ∧ Live N H ∧ Dp K (cut N H) v d ∧ ((modOk d = false ∧ ToldX K ad N H (.er .par d) Q E) ∨ (modOk d = true ∧ Q .non H))
def sp_need_rest (ad : Ads) (K : PySem.W.Frag) : Sp := fun vs H Q E => ∃ (N : List Addr) (v : V) (d : PyData) (m : Int), vs = [v, .int m] ∧ Live N H ∧ Dp K (cut N H) v d ∧ ((restOk m d = false ∧ ToldX K ad N H (.er .par d) Q E) ∨ (restOk m d = true ∧ Q .non H))
end
end My

set_option Elab.async false
set_option linter.all false
set_option maxRecDepth 100000
set_option maxHeartbeats 4000000
set_option exponentiation.threshold 20000
namespace My
open PySem PySem.Spec PyProof.Rows L2 LamX
/-! ### drawn choices -/
theorem Live.live {N : List Addr} {H : Hp} (l : Live N H) : Live N H := l
theorem isWhole_of {s : List (Int × Int)} (h : ∀ q ∈ s, q.2 = 1) : isWhole s = true := List.all_eq_true.mpr fun q hq => decide_eq_true (h q hq)
theorem headN_one {s : List (Int × Int)} {q : Int × Int} (h : ∀ q ∈ s, q.2 = 1) (hq : s.getLast? = some q) : headN s = q.1.natAbs := by
  unfold headN
  rw [natL_one h, List.getLast?_map, hq]
  rfl
theorem WS.isLet {s : List (Int × Int)} {t : Nat} (W : WS s t) : isLet s = true := by
  obtain ⟨q, hq⟩ := some_last (s := s) (by have := W.l2; omega)
  unfold My.isLet
  rw [isWhole_of W.one, Bool.true_and]
  have e : headZ s = q.1 := by unfold headZ; rw [hq]; rfl
  have e2 := headN_one W.one hq
  rw [e, ← e2]
  rcases W.lt with z | z
  · rw [decide_eq_true z]; rfl
  · rw [decide_eq_true z, Bool.or_true]
theorem ws_of {s : List (Int × Int)} {q : Int × Int} (h : ∀ q ∈ s, q.2 = 1 ∧ -3 ≤ q.1 ∧ q.1 ≤ 3) (hq : s.getLast? = some q) (h0 : q.1 ≠ 0) (h2 : 2 ≤ s.length) (h9 : s.length ≤ 9) (hl : 2 < s.length ∨ 2 ≤ q.1.natAbs) : WS s 2 := by
  have one : ∀ q ∈ s, q.2 = 1 := fun q hq => (h q hq).1
  have e := headN_one one hq
  refine ⟨one, fun p hp => ?_, h2, h9, by rw [e]; exact hl, by rw [e]; omega, isStep_of (wd := 3) (bl := 1) (n := s.length) ⟨rfl, fun p hp => ?_, fun p hp => ?_⟩ (by decide) (by decide) h2 (by omega)⟩
  · obtain ⟨a, b, c⟩ := h p hp
    show p.1.natAbs < 4
    omega
  · obtain ⟨a, b, c⟩ := h p hp
    refine ⟨?_, b, c, by rw [a]; decide⟩
    have : p = (p.1, 1) := by rw [← a]
    rw [this]
    exact low_w p.1
  · rw [hq] at hp
    cases hp
    exact h0
section
variable {P : Program} {w : World} {K : PySem.W.Frag} {mg : Str → Option Value} {base : Heap} {t1 t2 t3 : Tok} {f : Addr} {fd : FuncData} {ad : Ads}
theorem dp_putQ {N : List Addr} {H : Hp} {q : Addr} {o : HO} {v : V} {d : PyData} (m : q ∈ N) (h : Dp K (cut N H) v d) : Dp K (cut N (upd H q o)) v d := by rw [cut_upd m]; exact h
def sp_law_choices (K : PySem.W.Frag) : Sp := fun vs H Q _ => ∃ (N : List Addr) (pd pl : Addr) (m : Nat), vs = [.ref pd] ∧ Live N H ∧ St K N H pd pl m ∧ m ≤ 500000 ∧
  ∀ (v : V) (ss : List (List (Int × Int))) (H' : Hp), Chg pd pl H H' → St K N H' pd pl (m + 20) → Dp K (cut N H') v (rowD ss) → 1 ≤ ss.length → ss.length ≤ 3 → (∀ s ∈ ss, WS s 2) → Q v H'
theorem ok__law_choices (F : Fun K "_law_choices" "_law_choices" s__law_choices f fd) (T : Txt K mg t1 t2 t3) (C__law_draw : Ce P w K mg base CX0 2 "_law_draw" ["state", "limit"] (sp_law_draw K)) (C__law_of : Ce P w K mg base CX0 3 "_law_of" ["state", "some"] (sp_law_of K)) :
    FnOk P w K mg base CX0 4 f fd ["state"] (sp_law_choices K) := by
  refine F.ok sc__law_choices (fun vs H Q E h => ?_) (fun cdv A outer s H vs Q E hr h => ?_)
  · obtain ⟨N, pd, pl, m, rfl, _⟩ := h
    rfl
  · obtain ⟨N, pd, pl, m, rfl, l, S, hm, k⟩ := h
    refine ⟨_, (pss_cons (ps_set (i := 1) sc__law_choices.nd rfl (Or.inl rfl) (pe_tup pa_nil))
      (pss_cons (ps_for PassesOwn.never rfl (pi_range1 rfl T.f_range (pa_cons (pe_op op_add pe_int (pe_ce C__law_draw (hr.mono (by decide)) pass0 (pa_cons (pv 0) (pa_cons pe_int pa_nil)))) pa_nil)) (pg_name (i := 2) sc__law_choices.nd rfl (Or.inl rfl))
      (pss_cons (ps_set (i := 3) sc__law_choices.nd rfl (Or.inl rfl) (pe_ce C__law_draw (hr.mono (by decide)) pass0 (pa_cons (pv 0) (pa_cons pe_int pa_nil))))
      (pss_cons (ps_set (i := 4) sc__law_choices.nd rfl (Or.inl rfl) (pe_ce C__law_of (hr.mono (by decide)) pass0 (pa_cons (pv 0) (pa_cons (pe_ifExp (pt_cmpR op_gt (pv 3) pe_int (nomark _)) (pe_lst (pa_cons pe_int (pa_cons (pe_un un_neg pe_int) (pa_cons pe_int pa_nil)))) (pe_lst (pa_cons pe_int (pa_cons (pe_un un_neg pe_int) (pa_cons pe_int (pa_cons (pe_un un_neg pe_int) pa_nil)))))) pa_nil))))
      (pss_cons (ps_set (i := 5) sc__law_choices.nd rfl (Or.inl rfl) (pe_lst (pa_cons (pe_tup (pa_cons (pe_op op_sub (pe_ce C__law_draw (hr.mono (by decide)) pass0 (pa_cons (pv 0) (pa_cons pe_int pa_nil))) pe_int) (pa_cons pe_int pa_nil))) pa_nil)))
      (pss_cons (ps_if (pt_cmpR op_gt (pv 3) pe_int (nomark _)) (pss_one (ps_expr (pe_bm PySem.F.plainAttrs_list PySem.F.slot_list_append PySem.F.type_list_append mt_append (pv 5) (pa_cons (pe_tup (pa_cons (pe_op op_sub (pe_ce C__law_draw (hr.mono (by decide)) pass0 (pa_cons (pv 0) (pa_cons pe_int pa_nil))) pe_int) (pa_cons pe_int pa_nil))) pa_nil)))) pss_nil)
      (pss_cons (ps_if (pt_cmpR op_eq (pv 3) pe_int (nomark _)) (pss_one (ps_expr (pe_bm PySem.F.plainAttrs_list PySem.F.slot_list_append PySem.F.type_list_append mt_append (pv 5) (pa_cons (pe_tup (pa_cons pe_int (pa_cons pe_int pa_nil))) pa_nil)))) pss_nil)
      (pss_one (ps_set (i := 1) sc__law_choices.nd rfl (Or.inl rfl) (pe_op op_catA (pv 1) (pe_tup (pa_cons (pe_callTy call_tuple_of (by rfl) T.f_tuple (by decide +kernel) (pa_cons (pe_op op_cat (pv 5) (pe_lst (pa_cons (pe_tup (pa_cons (pv 4) (pa_cons pe_int pa_nil))) pa_nil))) pa_nil)) pa_nil)))))))))))
      (pss_one (ps_ret (pv 1))))), ?_⟩
    have C : Chg pd pl H H := Chg.of (Same.refl H)
    refine ⟨(by show 0 ≤ sizeLine; exact Nat.zero_le _), fun e0 me0 => ?_⟩
    have y1 := same_new (o := .tup []) me0
    have de0 : Dp K (cut N (upd H e0 (.tup []))) (.ref e0) (rowD []) := new_tup l.live me0 .nil
    have l := l.same y1
    have S := S.same y1
    have C := C.trans (Chg.of y1)
    generalize upd H e0 (.tup []) = J1 at l S de0 C ⊢
    clear y1 me0
    refine ⟨_, rfl, N, pd, pl, _, 3, rfl, l, S, by omega, by decide, by decide, fun r0 J2 r0a r0b c1 S1 => ?_⟩
    have l := S1.live c1 l
    have de0 := de0.ext (c1.cut S.md S.ml)
    have C := C.trans c1
    have S := S1
    clear c1 S1
    obtain ⟨n, hn⟩ : ∃ n : Nat, 1 + r0 = n := ⟨(1 + r0).toNat, by omega⟩
    refine ⟨_, _, rfl, rfl, (n : Int), by show [V.int (1 + r0)] = _; rw [hn], by omega, by omega, ?_⟩
    rw [Int.toNat_natCast]
    refine for_range (lo := 0) (n := n) (fun i σ H' => ∃ (vf : V) (ss : List (List (Int × Int))) (o2 o3 o4 o5 : Option V), σ = [some (.ref pd), some vf, o2, o3, o4, o5] ∧ Chg pd pl H H' ∧ Live N H' ∧ St K N H' pd pl (m + 1 + 5 * i) ∧ Dp K (cut N H') vf (rowD ss) ∧ ss.length = i ∧ ∀ s ∈ ss, WS s 2)
      ⟨_, [], _, _, _, _, rfl, C, l, S.more (by omega), de0, rfl, fun s hs => by cases hs⟩ ?_ ?_
    · clear C S l
      rintro i σ G hi ⟨vf, ss, o2, o3, o4, o5, rfl, C, l, S, df, ln, hs⟩
      have md0 := S.md
      have ml0 := S.ml
      refine ⟨_, rfl, N, pd, pl, _, 5, rfl, l, S, by omega, by decide, by decide, fun pk J1 pka pkb c1 S1 => ?_⟩
      have l := S1.live c1 l
      have df := df.ext (c1.cut S.md S.ml)
      have C := C.trans c1
      have S := S1
      clear c1 S1
      by_cases g1 : 1 < pk
      · by_cases g4 : pk = 4
        · refine ⟨_, rfl, _, rfl, _, _, rfl, rfl, _, rfl, ?_⟩
          rw [decide_eq_true g1]
          refine iteT ?_
          refine ⟨_, rfl, (by show 3 ≤ sizeLine; decide), fun ls mls => ?_⟩
          have y1 := same_new (o := .lst [V.int 1, V.int (-1), V.int 2]) mls
          have dls : Dp K (cut N (upd J1 ls (.lst [V.int 1, V.int (-1), V.int 2]))) (.ref ls) (.list [.int 1, .int (-1), .int 2]) := new_lst l.live mls (.cons (.int _) (.cons (.int _) (.cons (.int _) .nil)))
          have l := l.same y1
          have S := S.same y1
          have df := dp_ex df y1
          have C := C.trans (Chg.of y1)
          generalize upd J1 ls (.lst [V.int 1, V.int (-1), V.int 2]) = J2 at l S df dls C ⊢
          clear y1 mls
          obtain ⟨a1, xs1, ea1, hS1, hD1⟩ := dls.lstI
          cases ea1
          have ex1 := dp_ints (ns := [1, -1, 2]) hD1
          subst ex1
          refine ⟨N, pd, pl, ls, _, _, rfl, l, S, by omega, hS1, (by show 1 ≤ 3; decide), (by show 3 ≤ 1000; decide), fun v1 J3 hv1 c1 S1 => ?_⟩
          clear hS1 hD1
          clear dls
          have l := S1.live c1 l
          have df := df.ext (c1.cut S.md S.ml)
          have C := C.trans c1
          have S := S1
          clear c1 S1
          obtain ⟨z, ez, hz⟩ : ∃ z : Int, v1 = .int z ∧ z ∈ ([1, -1, 2] : List Int) := by
            obtain ⟨y, hy, e⟩ := List.mem_map.mp hv1
            exact ⟨y, e.symm, hy⟩
          subst ez
          clear hv1
          refine ⟨_, rfl, N, pd, pl, _, 7, rfl, l, S, by omega, by decide, by decide, fun ra J4 raa rab c1 S1 => ?_⟩
          have l := S1.live c1 l
          have df := df.ext (c1.cut S.md S.ml)
          have C := C.trans c1
          have S := S1
          clear c1 S1
          refine ⟨_, _, rfl, rfl, (by show 2 ≤ sizeLine; decide), fun pa mpa => ?_⟩
          have y1 := same_new (o := .tup [V.int (ra - 3), V.int 1]) mpa
          have dpa : Dp K (cut N (upd J4 pa (.tup [V.int (ra - 3), V.int 1]))) (.ref pa) (nD ((ra - 3), 1)) := new_tup l.live mpa dp_two
          have l := l.same y1
          have S := S.same y1
          have df := dp_ex df y1
          have C := C.trans (Chg.of y1)
          generalize upd J4 pa (.tup [V.int (ra - 3), V.int 1]) = J5 at l S df dpa C ⊢
          clear y1 mpa
          refine ⟨(by show 1 ≤ sizeLine; decide), fun q mq => ?_⟩
          have nq : ∀ b o, b ≠ pd → b ≠ pl → H b = some o → b ≠ q := fun b o h1 h2 e => ne_of_none (C b o h1 h2 e) mq
          have C := C.trans (Chg.of (same_new (o := .lst [V.ref pa]) mq))
          have ne1 : q ≠ pd := fun e => (l.new mq) (e ▸ S.md)
          have ne2 : q ≠ pl := fun e => (l.new mq) (e ▸ S.ml)
          have S := S.push mq (.lst [V.ref pa])
          have l := l.push mq (.lst [V.ref pa])
          have df := dp_push df mq (.lst [V.ref pa])
          have dpa := dp_push dpa mq (.lst [V.ref pa])
          have cq : (upd J5 q (.lst [V.ref pa])) q = some (.lst [V.ref pa]) := upd_same
          generalize upd J5 q (.lst [V.ref pa]) = J6 at l S df dpa C cq ⊢
          clear mq
          generalize hN1 : q :: N = N1 at l S df dpa C
          have mqN : q ∈ N1 := hN1 ▸ List.mem_cons_self
          refine ⟨_, rfl, _, _, rfl, rfl, _, rfl, ?_⟩
          rw [decide_eq_true g1]
          refine iteT ?_
          refine ⟨_, rfl, .inl ⟨rfl, _, .inl (.inl cq)⟩, ?_⟩
          refine ⟨_, rfl, N1, pd, pl, _, 5, rfl, l, S, by omega, by decide, by decide, fun rb J7 rba rbb c1 S1 => ?_⟩
          have cq := c1 q _ ne1 ne2 cq
          have l := S1.live c1 l
          have df := df.ext (c1.cut S.md S.ml)
          have dpa := dpa.ext (c1.cut S.md S.ml)
          have C := C.trans c1
          have S := S1
          clear c1 S1
          refine ⟨_, _, rfl, rfl, (by show 2 ≤ sizeLine; decide), fun pb mpb => ?_⟩
          have y1 := same_new (o := .tup [V.int (rb - 2), V.int 1]) mpb
          have dpb : Dp K (cut N1 (upd J7 pb (.tup [V.int (rb - 2), V.int 1]))) (.ref pb) (nD ((rb - 2), 1)) := new_tup l.live mpb dp_two
          have l := l.same y1
          have S := S.same y1
          have df := dp_ex df y1
          have dpa := dp_ex dpa y1
          have cq := y1 _ _ cq
          have C := C.trans (Chg.of y1)
          generalize upd J7 pb (.tup [V.int (rb - 2), V.int 1]) = J8 at l S df dpa dpb cq C ⊢
          clear y1 mpb
          refine ⟨q, [V.ref pa], .ref pb, rfl, rfl, cq, small1000 (by show 1 ≤ 1000; decide), ?_⟩
          have l := l.setD (D := q) (.lst ([V.ref pa] ++ [V.ref pb]))
          have S := by rw [← hN1] at S; exact S.setD ne1 ne2 (.lst ([V.ref pa] ++ [V.ref pb]))
          rw [hN1] at S
          have C : Chg pd pl H (upd J8 q (.lst ([V.ref pa] ++ [V.ref pb]))) := fun b o h1 h2 e => by rw [upd_ne (nq b o h1 h2 e)]; exact C b o h1 h2 e
          have df := dp_putQ (o := .lst ([V.ref pa] ++ [V.ref pb])) mqN df
          have dpa := dp_putQ (o := .lst ([V.ref pa] ++ [V.ref pb])) mqN dpa
          have dpb := dp_putQ (o := .lst ([V.ref pa] ++ [V.ref pb])) mqN dpb
          have cq : (upd J8 q (.lst ([V.ref pa] ++ [V.ref pb]))) q = some (.lst [V.ref pa, V.ref pb]) := upd_same
          generalize upd J8 q (.lst ([V.ref pa] ++ [V.ref pb])) = J9 at l S df dpa dpb C cq ⊢
          refine ⟨_, rfl, rfl, _, rfl, ?_⟩
          rw [decide_eq_true (congrArg V.int g4)]
          refine iteT ?_
          refine ⟨_, rfl, .inl ⟨rfl, _, .inl (.inl cq)⟩, ?_⟩
          refine ⟨(by show 2 ≤ sizeLine; decide), fun pc mpc => ?_⟩
          have y1 := same_new (o := .tup [V.int 0, V.int 1]) mpc
          have dpc : Dp K (cut N1 (upd J9 pc (.tup [V.int 0, V.int 1]))) (.ref pc) (nD (0, 1)) := new_tup l.live mpc dp_two
          have l := l.same y1
          have S := S.same y1
          have df := dp_ex df y1
          have dpa := dp_ex dpa y1
          have dpb := dp_ex dpb y1
          have cq := y1 _ _ cq
          have C := C.trans (Chg.of y1)
          generalize upd J9 pc (.tup [V.int 0, V.int 1]) = J10 at l S df dpa dpb dpc cq C ⊢
          clear y1 mpc
          refine ⟨q, [V.ref pa, V.ref pb], .ref pc, rfl, rfl, cq, small1000 (by show 2 ≤ 1000; decide), ?_⟩
          have l := l.setD (D := q) (.lst ([V.ref pa, V.ref pb] ++ [V.ref pc]))
          have S := by rw [← hN1] at S; exact S.setD ne1 ne2 (.lst ([V.ref pa, V.ref pb] ++ [V.ref pc]))
          rw [hN1] at S
          have C : Chg pd pl H (upd J10 q (.lst ([V.ref pa, V.ref pb] ++ [V.ref pc]))) := fun b o h1 h2 e => by rw [upd_ne (nq b o h1 h2 e)]; exact C b o h1 h2 e
          have df := dp_putQ (o := .lst ([V.ref pa, V.ref pb] ++ [V.ref pc])) mqN df
          have dpa := dp_putQ (o := .lst ([V.ref pa, V.ref pb] ++ [V.ref pc])) mqN dpa
          have dpb := dp_putQ (o := .lst ([V.ref pa, V.ref pb] ++ [V.ref pc])) mqN dpb
          have dpc := dp_putQ (o := .lst ([V.ref pa, V.ref pb] ++ [V.ref pc])) mqN dpc
          have cq : (upd J10 q (.lst ([V.ref pa, V.ref pb] ++ [V.ref pc]))) q = some (.lst [V.ref pa, V.ref pb, V.ref pc]) := upd_same
          generalize upd J10 q (.lst ([V.ref pa, V.ref pb] ++ [V.ref pc])) = J11 at l S df dpa dpb dpc C cq ⊢
          refine ⟨_, rfl, _, rfl, _, rfl, (by show 2 ≤ sizeLine; decide), fun ph mph => ?_⟩
          have y1 := same_new (o := .tup [V.int z, V.int 1]) mph
          have dph : Dp K (cut N1 (upd J11 ph (.tup [V.int z, V.int 1]))) (.ref ph) (nD (z, 1)) := new_tup l.live mph dp_two
          have l := l.same y1
          have S := S.same y1
          have df := dp_ex df y1
          have dpa := dp_ex dpa y1
          have dpb := dp_ex dpb y1
          have dpc := dp_ex dpc y1
          have cq := y1 _ _ cq
          have C := C.trans (Chg.of y1)
          generalize upd J11 ph (.tup [V.int z, V.int 1]) = J12 at l S df dpa dpb dpc dph cq C ⊢
          clear y1 mph
          refine ⟨(by show 1 ≤ sizeLine; decide), fun l1 ml1 => ?_⟩
          have y1 := same_new (o := .lst [V.ref ph]) ml1
          have l := l.same y1
          have S := S.same y1
          have df := dp_ex df y1
          have dpa := dp_ex dpa y1
          have dpb := dp_ex dpb y1
          have dpc := dp_ex dpc y1
          have dph := dp_ex dph y1
          have cq := y1 _ _ cq
          have C := C.trans (Chg.of y1)
          have cl1 : (upd J12 l1 (.lst [V.ref ph])) l1 = some (.lst [V.ref ph]) := upd_same
          generalize upd J12 l1 (.lst [V.ref ph]) = J13 at l S df dpa dpb dpc dph cq cl1 C ⊢
          clear y1 ml1
          refine ⟨_, _, _, _, rfl, rfl, cq, cl1, (by show 3 + 1 ≤ sizeLine; decide), fun g2 mg2 => ?_⟩
          have y1 := same_new (o := .lst ([V.ref pa, V.ref pb, V.ref pc] ++ [V.ref ph])) mg2
          have l := l.same y1
          have S := S.same y1
          have df := dp_ex df y1
          have dpa := dp_ex dpa y1
          have dpb := dp_ex dpb y1
          have dpc := dp_ex dpc y1
          have dph := dp_ex dph y1
          have cq := y1 _ _ cq
          have cl1 := y1 _ _ cl1
          have C := C.trans (Chg.of y1)
          have cg2 : (upd J13 g2 (.lst ([V.ref pa, V.ref pb, V.ref pc] ++ [V.ref ph]))) g2 = some (.lst ([V.ref pa, V.ref pb, V.ref pc] ++ [V.ref ph])) := upd_same
          generalize upd J13 g2 (.lst ([V.ref pa, V.ref pb, V.ref pc] ++ [V.ref ph])) = J14 at l S df dpa dpb dpc dph cq cl1 C cg2 ⊢
          clear y1 mg2
          clear cq
          clear cl1
          refine ⟨g2, _, rfl, .inl ⟨.inl (.inl cg2), fun tt mtt => ?_⟩⟩
          have y1 := same_new (o := .tup ([V.ref pa, V.ref pb, V.ref pc] ++ [V.ref ph])) mtt
          have dtt : Dp K (cut N1 (upd J14 tt (.tup ([V.ref pa, V.ref pb, V.ref pc] ++ [V.ref ph])))) (.ref tt) (sD [(ra - 3, 1), (rb - 2, 1), (0, 1), (z, 1)]) := new_tup l mtt (.cons dpa (.cons dpb (.cons dpc (.cons dph .nil))))
          have l := l.same y1
          have S := S.same y1
          have df := dp_ex df y1
          have dpa := dp_ex dpa y1
          have dpb := dp_ex dpb y1
          have dpc := dp_ex dpc y1
          have dph := dp_ex dph y1
          have C := C.trans (Chg.of y1)
          generalize upd J14 tt (.tup ([V.ref pa, V.ref pb, V.ref pc] ++ [V.ref ph])) = J15 at l S df dpa dpb dpc dph dtt C ⊢
          clear y1 mtt cg2
          refine ⟨(by show 1 ≤ sizeLine; decide), fun p1 mp1 => ?_⟩
          have y1 := same_new (o := .tup [V.ref tt]) mp1
          have dp1 : Dp K (cut N1 (upd J15 p1 (.tup [V.ref tt]))) (.ref p1) (rowD [[(ra - 3, 1), (rb - 2, 1), (0, 1), (z, 1)]]) := new_tup l.live mp1 (.cons dtt .nil)
          have l := l.same y1
          have S := S.same y1
          have df := dp_ex df y1
          have dpa := dp_ex dpa y1
          have dpb := dp_ex dpb y1
          have dpc := dp_ex dpc y1
          have dph := dp_ex dph y1
          have dtt := dp_ex dtt y1
          have C := C.trans (Chg.of y1)
          generalize upd J15 p1 (.tup [V.ref tt]) = J16 at l S df dpa dpb dpc dph dtt dp1 C ⊢
          clear y1 mp1
          obtain ⟨fa, fx, rfl, hfa, hfx⟩ := df.tupI
          obtain ⟨ga, gx, ega, hga, hgx⟩ := dp1.tupI
          cases ega
          have fl : fx.length = i := by rw [hfx.length, List.length_map, ln]
          have gl : gx.length = 1 := hgx.length
          refine catA_any l hfa hga (by omega) fun p6 J17 y6 h6 => ?_
          have d6 : Dp K (cut N1 J17) (.ref p6) (rowD (ss ++ [[(ra - 3, 1), (rb - 2, 1), (0, 1), (z, 1)]])) := .tup h6 (by rw [List.map_append]; exact DpAll.append (hfx.ext (Same.cut N1 y6)) (hgx.ext (Same.cut N1 y6)))
          have l := l.same y6
          have S := S.same y6
          have C := C.trans (Chg.of y6)
          subst hN1
          simp only [List.mem_cons, List.not_mem_nil, or_false] at hz
          refine ⟨.ref p6, ss ++ [[(ra - 3, 1), (rb - 2, 1), (0, 1), (z, 1)]], _, _, _, _, rfl, C, fun a ha => l a (List.mem_cons_of_mem _ ha), (S.pop md0 ml0).more (by omega), d6.ext (cut_sub q), by rw [List.length_append, ln]; rfl, fun s hsm => ?_⟩
          rcases List.mem_append.mp hsm with y | y
          · exact hs s y
          rw [List.mem_singleton.mp y]
          refine ws_of (q := (z, 1)) (fun p hp => ?_) rfl (by show z ≠ 0; omega) (by show 2 ≤ 4; decide) (by show 4 ≤ 9; decide) (.inl (by show 2 < 4; decide))
          simp only [List.mem_cons, List.not_mem_nil, or_false] at hp
          rcases hp with y | y | y | y <;> rw [y] <;> exact ⟨rfl, by dsimp only; omega, by dsimp only; omega⟩
        · refine ⟨_, rfl, _, rfl, _, _, rfl, rfl, _, rfl, ?_⟩
          rw [decide_eq_true g1]
          refine iteT ?_
          refine ⟨_, rfl, (by show 3 ≤ sizeLine; decide), fun ls mls => ?_⟩
          have y1 := same_new (o := .lst [V.int 1, V.int (-1), V.int 2]) mls
          have dls : Dp K (cut N (upd J1 ls (.lst [V.int 1, V.int (-1), V.int 2]))) (.ref ls) (.list [.int 1, .int (-1), .int 2]) := new_lst l.live mls (.cons (.int _) (.cons (.int _) (.cons (.int _) .nil)))
          have l := l.same y1
          have S := S.same y1
          have df := dp_ex df y1
          have C := C.trans (Chg.of y1)
          generalize upd J1 ls (.lst [V.int 1, V.int (-1), V.int 2]) = J2 at l S df dls C ⊢
          clear y1 mls
          obtain ⟨a1, xs1, ea1, hS1, hD1⟩ := dls.lstI
          cases ea1
          have ex1 := dp_ints (ns := [1, -1, 2]) hD1
          subst ex1
          refine ⟨N, pd, pl, ls, _, _, rfl, l, S, by omega, hS1, (by show 1 ≤ 3; decide), (by show 3 ≤ 1000; decide), fun v1 J3 hv1 c1 S1 => ?_⟩
          clear hS1 hD1
          clear dls
          have l := S1.live c1 l
          have df := df.ext (c1.cut S.md S.ml)
          have C := C.trans c1
          have S := S1
          clear c1 S1
          obtain ⟨z, ez, hz⟩ : ∃ z : Int, v1 = .int z ∧ z ∈ ([1, -1, 2] : List Int) := by
            obtain ⟨y, hy, e⟩ := List.mem_map.mp hv1
            exact ⟨y, e.symm, hy⟩
          subst ez
          clear hv1
          refine ⟨_, rfl, N, pd, pl, _, 7, rfl, l, S, by omega, by decide, by decide, fun ra J4 raa rab c1 S1 => ?_⟩
          have l := S1.live c1 l
          have df := df.ext (c1.cut S.md S.ml)
          have C := C.trans c1
          have S := S1
          clear c1 S1
          refine ⟨_, _, rfl, rfl, (by show 2 ≤ sizeLine; decide), fun pa mpa => ?_⟩
          have y1 := same_new (o := .tup [V.int (ra - 3), V.int 1]) mpa
          have dpa : Dp K (cut N (upd J4 pa (.tup [V.int (ra - 3), V.int 1]))) (.ref pa) (nD ((ra - 3), 1)) := new_tup l.live mpa dp_two
          have l := l.same y1
          have S := S.same y1
          have df := dp_ex df y1
          have C := C.trans (Chg.of y1)
          generalize upd J4 pa (.tup [V.int (ra - 3), V.int 1]) = J5 at l S df dpa C ⊢
          clear y1 mpa
          refine ⟨(by show 1 ≤ sizeLine; decide), fun q mq => ?_⟩
          have nq : ∀ b o, b ≠ pd → b ≠ pl → H b = some o → b ≠ q := fun b o h1 h2 e => ne_of_none (C b o h1 h2 e) mq
          have C := C.trans (Chg.of (same_new (o := .lst [V.ref pa]) mq))
          have ne1 : q ≠ pd := fun e => (l.new mq) (e ▸ S.md)
          have ne2 : q ≠ pl := fun e => (l.new mq) (e ▸ S.ml)
          have S := S.push mq (.lst [V.ref pa])
          have l := l.push mq (.lst [V.ref pa])
          have df := dp_push df mq (.lst [V.ref pa])
          have dpa := dp_push dpa mq (.lst [V.ref pa])
          have cq : (upd J5 q (.lst [V.ref pa])) q = some (.lst [V.ref pa]) := upd_same
          generalize upd J5 q (.lst [V.ref pa]) = J6 at l S df dpa C cq ⊢
          clear mq
          generalize hN1 : q :: N = N1 at l S df dpa C
          have mqN : q ∈ N1 := hN1 ▸ List.mem_cons_self
          refine ⟨_, rfl, _, _, rfl, rfl, _, rfl, ?_⟩
          rw [decide_eq_true g1]
          refine iteT ?_
          refine ⟨_, rfl, .inl ⟨rfl, _, .inl (.inl cq)⟩, ?_⟩
          refine ⟨_, rfl, N1, pd, pl, _, 5, rfl, l, S, by omega, by decide, by decide, fun rb J7 rba rbb c1 S1 => ?_⟩
          have cq := c1 q _ ne1 ne2 cq
          have l := S1.live c1 l
          have df := df.ext (c1.cut S.md S.ml)
          have dpa := dpa.ext (c1.cut S.md S.ml)
          have C := C.trans c1
          have S := S1
          clear c1 S1
          refine ⟨_, _, rfl, rfl, (by show 2 ≤ sizeLine; decide), fun pb mpb => ?_⟩
          have y1 := same_new (o := .tup [V.int (rb - 2), V.int 1]) mpb
          have dpb : Dp K (cut N1 (upd J7 pb (.tup [V.int (rb - 2), V.int 1]))) (.ref pb) (nD ((rb - 2), 1)) := new_tup l.live mpb dp_two
          have l := l.same y1
          have S := S.same y1
          have df := dp_ex df y1
          have dpa := dp_ex dpa y1
          have cq := y1 _ _ cq
          have C := C.trans (Chg.of y1)
          generalize upd J7 pb (.tup [V.int (rb - 2), V.int 1]) = J8 at l S df dpa dpb cq C ⊢
          clear y1 mpb
          refine ⟨q, [V.ref pa], .ref pb, rfl, rfl, cq, small1000 (by show 1 ≤ 1000; decide), ?_⟩
          have l := l.setD (D := q) (.lst ([V.ref pa] ++ [V.ref pb]))
          have S := by rw [← hN1] at S; exact S.setD ne1 ne2 (.lst ([V.ref pa] ++ [V.ref pb]))
          rw [hN1] at S
          have C : Chg pd pl H (upd J8 q (.lst ([V.ref pa] ++ [V.ref pb]))) := fun b o h1 h2 e => by rw [upd_ne (nq b o h1 h2 e)]; exact C b o h1 h2 e
          have df := dp_putQ (o := .lst ([V.ref pa] ++ [V.ref pb])) mqN df
          have dpa := dp_putQ (o := .lst ([V.ref pa] ++ [V.ref pb])) mqN dpa
          have dpb := dp_putQ (o := .lst ([V.ref pa] ++ [V.ref pb])) mqN dpb
          have cq : (upd J8 q (.lst ([V.ref pa] ++ [V.ref pb]))) q = some (.lst [V.ref pa, V.ref pb]) := upd_same
          generalize upd J8 q (.lst ([V.ref pa] ++ [V.ref pb])) = J9 at l S df dpa dpb C cq ⊢
          refine ⟨_, rfl, rfl, _, rfl, ?_⟩
          rw [decide_eq_false (fun e => g4 (V.int.inj e))]
          refine iteF ?_
          refine ⟨_, rfl, _, rfl, _, rfl, (by show 2 ≤ sizeLine; decide), fun ph mph => ?_⟩
          have y1 := same_new (o := .tup [V.int z, V.int 1]) mph
          have dph : Dp K (cut N1 (upd J9 ph (.tup [V.int z, V.int 1]))) (.ref ph) (nD (z, 1)) := new_tup l.live mph dp_two
          have l := l.same y1
          have S := S.same y1
          have df := dp_ex df y1
          have dpa := dp_ex dpa y1
          have dpb := dp_ex dpb y1
          have cq := y1 _ _ cq
          have C := C.trans (Chg.of y1)
          generalize upd J9 ph (.tup [V.int z, V.int 1]) = J10 at l S df dpa dpb dph cq C ⊢
          clear y1 mph
          refine ⟨(by show 1 ≤ sizeLine; decide), fun l1 ml1 => ?_⟩
          have y1 := same_new (o := .lst [V.ref ph]) ml1
          have l := l.same y1
          have S := S.same y1
          have df := dp_ex df y1
          have dpa := dp_ex dpa y1
          have dpb := dp_ex dpb y1
          have dph := dp_ex dph y1
          have cq := y1 _ _ cq
          have C := C.trans (Chg.of y1)
          have cl1 : (upd J10 l1 (.lst [V.ref ph])) l1 = some (.lst [V.ref ph]) := upd_same
          generalize upd J10 l1 (.lst [V.ref ph]) = J11 at l S df dpa dpb dph cq cl1 C ⊢
          clear y1 ml1
          refine ⟨_, _, _, _, rfl, rfl, cq, cl1, (by show 2 + 1 ≤ sizeLine; decide), fun g2 mg2 => ?_⟩
          have y1 := same_new (o := .lst ([V.ref pa, V.ref pb] ++ [V.ref ph])) mg2
          have l := l.same y1
          have S := S.same y1
          have df := dp_ex df y1
          have dpa := dp_ex dpa y1
          have dpb := dp_ex dpb y1
          have dph := dp_ex dph y1
          have cq := y1 _ _ cq
          have cl1 := y1 _ _ cl1
          have C := C.trans (Chg.of y1)
          have cg2 : (upd J11 g2 (.lst ([V.ref pa, V.ref pb] ++ [V.ref ph]))) g2 = some (.lst ([V.ref pa, V.ref pb] ++ [V.ref ph])) := upd_same
          generalize upd J11 g2 (.lst ([V.ref pa, V.ref pb] ++ [V.ref ph])) = J12 at l S df dpa dpb dph cq cl1 C cg2 ⊢
          clear y1 mg2
          clear cq
          clear cl1
          refine ⟨g2, _, rfl, .inl ⟨.inl (.inl cg2), fun tt mtt => ?_⟩⟩
          have y1 := same_new (o := .tup ([V.ref pa, V.ref pb] ++ [V.ref ph])) mtt
          have dtt : Dp K (cut N1 (upd J12 tt (.tup ([V.ref pa, V.ref pb] ++ [V.ref ph])))) (.ref tt) (sD [(ra - 3, 1), (rb - 2, 1), (z, 1)]) := new_tup l mtt (.cons dpa (.cons dpb (.cons dph .nil)))
          have l := l.same y1
          have S := S.same y1
          have df := dp_ex df y1
          have dpa := dp_ex dpa y1
          have dpb := dp_ex dpb y1
          have dph := dp_ex dph y1
          have C := C.trans (Chg.of y1)
          generalize upd J12 tt (.tup ([V.ref pa, V.ref pb] ++ [V.ref ph])) = J13 at l S df dpa dpb dph dtt C ⊢
          clear y1 mtt cg2
          refine ⟨(by show 1 ≤ sizeLine; decide), fun p1 mp1 => ?_⟩
          have y1 := same_new (o := .tup [V.ref tt]) mp1
          have dp1 : Dp K (cut N1 (upd J13 p1 (.tup [V.ref tt]))) (.ref p1) (rowD [[(ra - 3, 1), (rb - 2, 1), (z, 1)]]) := new_tup l.live mp1 (.cons dtt .nil)
          have l := l.same y1
          have S := S.same y1
          have df := dp_ex df y1
          have dpa := dp_ex dpa y1
          have dpb := dp_ex dpb y1
          have dph := dp_ex dph y1
          have dtt := dp_ex dtt y1
          have C := C.trans (Chg.of y1)
          generalize upd J13 p1 (.tup [V.ref tt]) = J14 at l S df dpa dpb dph dtt dp1 C ⊢
          clear y1 mp1
          obtain ⟨fa, fx, rfl, hfa, hfx⟩ := df.tupI
          obtain ⟨ga, gx, ega, hga, hgx⟩ := dp1.tupI
          cases ega
          have fl : fx.length = i := by rw [hfx.length, List.length_map, ln]
          have gl : gx.length = 1 := hgx.length
          refine catA_any l hfa hga (by omega) fun p6 J15 y6 h6 => ?_
          have d6 : Dp K (cut N1 J15) (.ref p6) (rowD (ss ++ [[(ra - 3, 1), (rb - 2, 1), (z, 1)]])) := .tup h6 (by rw [List.map_append]; exact DpAll.append (hfx.ext (Same.cut N1 y6)) (hgx.ext (Same.cut N1 y6)))
          have l := l.same y6
          have S := S.same y6
          have C := C.trans (Chg.of y6)
          subst hN1
          simp only [List.mem_cons, List.not_mem_nil, or_false] at hz
          refine ⟨.ref p6, ss ++ [[(ra - 3, 1), (rb - 2, 1), (z, 1)]], _, _, _, _, rfl, C, fun a ha => l a (List.mem_cons_of_mem _ ha), (S.pop md0 ml0).more (by omega), d6.ext (cut_sub q), by rw [List.length_append, ln]; rfl, fun s hsm => ?_⟩
          rcases List.mem_append.mp hsm with y | y
          · exact hs s y
          rw [List.mem_singleton.mp y]
          refine ws_of (q := (z, 1)) (fun p hp => ?_) rfl (by show z ≠ 0; omega) (by show 2 ≤ 3; decide) (by show 3 ≤ 9; decide) (.inl (by show 2 < 3; decide))
          simp only [List.mem_cons, List.not_mem_nil, or_false] at hp
          rcases hp with y | y | y <;> rw [y] <;> exact ⟨rfl, by dsimp only; omega, by dsimp only; omega⟩
      · refine ⟨_, rfl, _, rfl, _, _, rfl, rfl, _, rfl, ?_⟩
        rw [decide_eq_false g1]
        refine iteF ?_
        refine ⟨_, rfl, _, rfl, (by show 4 ≤ sizeLine; decide), fun ls mls => ?_⟩
        have y1 := same_new (o := .lst [V.int 2, V.int (-2), V.int 3, V.int (-3)]) mls
        have dls : Dp K (cut N (upd J1 ls (.lst [V.int 2, V.int (-2), V.int 3, V.int (-3)]))) (.ref ls) (.list [.int 2, .int (-2), .int 3, .int (-3)]) := new_lst l.live mls (.cons (.int _) (.cons (.int _) (.cons (.int _) (.cons (.int _) .nil))))
        have l := l.same y1
        have S := S.same y1
        have df := dp_ex df y1
        have C := C.trans (Chg.of y1)
        generalize upd J1 ls (.lst [V.int 2, V.int (-2), V.int 3, V.int (-3)]) = J2 at l S df dls C ⊢
        clear y1 mls
        obtain ⟨a1, xs1, ea1, hS1, hD1⟩ := dls.lstI
        cases ea1
        have ex1 := dp_ints (ns := [2, -2, 3, -3]) hD1
        subst ex1
        refine ⟨N, pd, pl, ls, _, _, rfl, l, S, by omega, hS1, (by show 1 ≤ 4; decide), (by show 4 ≤ 1000; decide), fun v1 J3 hv1 c1 S1 => ?_⟩
        clear hS1 hD1
        clear dls
        have l := S1.live c1 l
        have df := df.ext (c1.cut S.md S.ml)
        have C := C.trans c1
        have S := S1
        clear c1 S1
        obtain ⟨z, ez, hz⟩ : ∃ z : Int, v1 = .int z ∧ z ∈ ([2, -2, 3, -3] : List Int) := by
          obtain ⟨y, hy, e⟩ := List.mem_map.mp hv1
          exact ⟨y, e.symm, hy⟩
        subst ez
        clear hv1
        refine ⟨_, rfl, N, pd, pl, _, 7, rfl, l, S, by omega, by decide, by decide, fun ra J4 raa rab c1 S1 => ?_⟩
        have l := S1.live c1 l
        have df := df.ext (c1.cut S.md S.ml)
        have C := C.trans c1
        have S := S1
        clear c1 S1
        refine ⟨_, _, rfl, rfl, (by show 2 ≤ sizeLine; decide), fun pa mpa => ?_⟩
        have y1 := same_new (o := .tup [V.int (ra - 3), V.int 1]) mpa
        have dpa : Dp K (cut N (upd J4 pa (.tup [V.int (ra - 3), V.int 1]))) (.ref pa) (nD ((ra - 3), 1)) := new_tup l.live mpa dp_two
        have l := l.same y1
        have S := S.same y1
        have df := dp_ex df y1
        have C := C.trans (Chg.of y1)
        generalize upd J4 pa (.tup [V.int (ra - 3), V.int 1]) = J5 at l S df dpa C ⊢
        clear y1 mpa
        refine ⟨(by show 1 ≤ sizeLine; decide), fun q mq => ?_⟩
        have nq : ∀ b o, b ≠ pd → b ≠ pl → H b = some o → b ≠ q := fun b o h1 h2 e => ne_of_none (C b o h1 h2 e) mq
        have C := C.trans (Chg.of (same_new (o := .lst [V.ref pa]) mq))
        have ne1 : q ≠ pd := fun e => (l.new mq) (e ▸ S.md)
        have ne2 : q ≠ pl := fun e => (l.new mq) (e ▸ S.ml)
        have S := S.push mq (.lst [V.ref pa])
        have l := l.push mq (.lst [V.ref pa])
        have df := dp_push df mq (.lst [V.ref pa])
        have dpa := dp_push dpa mq (.lst [V.ref pa])
        have cq : (upd J5 q (.lst [V.ref pa])) q = some (.lst [V.ref pa]) := upd_same
        generalize upd J5 q (.lst [V.ref pa]) = J6 at l S df dpa C cq ⊢
        clear mq
        generalize hN1 : q :: N = N1 at l S df dpa C
        have mqN : q ∈ N1 := hN1 ▸ List.mem_cons_self
        refine ⟨_, rfl, _, _, rfl, rfl, _, rfl, ?_⟩
        rw [decide_eq_false g1]
        refine iteF ?_
        refine ⟨_, rfl, rfl, _, rfl, ?_⟩
        rw [decide_eq_false (fun e => by have := V.int.inj e; omega)]
        refine iteF ?_
        refine ⟨_, rfl, _, rfl, _, rfl, (by show 2 ≤ sizeLine; decide), fun ph mph => ?_⟩
        have y1 := same_new (o := .tup [V.int z, V.int 1]) mph
        have dph : Dp K (cut N1 (upd J6 ph (.tup [V.int z, V.int 1]))) (.ref ph) (nD (z, 1)) := new_tup l.live mph dp_two
        have l := l.same y1
        have S := S.same y1
        have df := dp_ex df y1
        have dpa := dp_ex dpa y1
        have cq := y1 _ _ cq
        have C := C.trans (Chg.of y1)
        generalize upd J6 ph (.tup [V.int z, V.int 1]) = J7 at l S df dpa dph cq C ⊢
        clear y1 mph
        refine ⟨(by show 1 ≤ sizeLine; decide), fun l1 ml1 => ?_⟩
        have y1 := same_new (o := .lst [V.ref ph]) ml1
        have l := l.same y1
        have S := S.same y1
        have df := dp_ex df y1
        have dpa := dp_ex dpa y1
        have dph := dp_ex dph y1
        have cq := y1 _ _ cq
        have C := C.trans (Chg.of y1)
        have cl1 : (upd J7 l1 (.lst [V.ref ph])) l1 = some (.lst [V.ref ph]) := upd_same
        generalize upd J7 l1 (.lst [V.ref ph]) = J8 at l S df dpa dph cq cl1 C ⊢
        clear y1 ml1
        refine ⟨_, _, _, _, rfl, rfl, cq, cl1, (by show 1 + 1 ≤ sizeLine; decide), fun g2 mg2 => ?_⟩
        have y1 := same_new (o := .lst ([V.ref pa] ++ [V.ref ph])) mg2
        have l := l.same y1
        have S := S.same y1
        have df := dp_ex df y1
        have dpa := dp_ex dpa y1
        have dph := dp_ex dph y1
        have cq := y1 _ _ cq
        have cl1 := y1 _ _ cl1
        have C := C.trans (Chg.of y1)
        have cg2 : (upd J8 g2 (.lst ([V.ref pa] ++ [V.ref ph]))) g2 = some (.lst ([V.ref pa] ++ [V.ref ph])) := upd_same
        generalize upd J8 g2 (.lst ([V.ref pa] ++ [V.ref ph])) = J9 at l S df dpa dph cq cl1 C cg2 ⊢
        clear y1 mg2
        clear cq
        clear cl1
        refine ⟨g2, _, rfl, .inl ⟨.inl (.inl cg2), fun tt mtt => ?_⟩⟩
        have y1 := same_new (o := .tup ([V.ref pa] ++ [V.ref ph])) mtt
        have dtt : Dp K (cut N1 (upd J9 tt (.tup ([V.ref pa] ++ [V.ref ph])))) (.ref tt) (sD [(ra - 3, 1), (z, 1)]) := new_tup l mtt (.cons dpa (.cons dph .nil))
        have l := l.same y1
        have S := S.same y1
        have df := dp_ex df y1
        have dpa := dp_ex dpa y1
        have dph := dp_ex dph y1
        have C := C.trans (Chg.of y1)
        generalize upd J9 tt (.tup ([V.ref pa] ++ [V.ref ph])) = J10 at l S df dpa dph dtt C ⊢
        clear y1 mtt cg2
        refine ⟨(by show 1 ≤ sizeLine; decide), fun p1 mp1 => ?_⟩
        have y1 := same_new (o := .tup [V.ref tt]) mp1
        have dp1 : Dp K (cut N1 (upd J10 p1 (.tup [V.ref tt]))) (.ref p1) (rowD [[(ra - 3, 1), (z, 1)]]) := new_tup l.live mp1 (.cons dtt .nil)
        have l := l.same y1
        have S := S.same y1
        have df := dp_ex df y1
        have dpa := dp_ex dpa y1
        have dph := dp_ex dph y1
        have dtt := dp_ex dtt y1
        have C := C.trans (Chg.of y1)
        generalize upd J10 p1 (.tup [V.ref tt]) = J11 at l S df dpa dph dtt dp1 C ⊢
        clear y1 mp1
        obtain ⟨fa, fx, rfl, hfa, hfx⟩ := df.tupI
        obtain ⟨ga, gx, ega, hga, hgx⟩ := dp1.tupI
        cases ega
        have fl : fx.length = i := by rw [hfx.length, List.length_map, ln]
        have gl : gx.length = 1 := hgx.length
        refine catA_any l hfa hga (by omega) fun p6 J12 y6 h6 => ?_
        have d6 : Dp K (cut N1 J12) (.ref p6) (rowD (ss ++ [[(ra - 3, 1), (z, 1)]])) := .tup h6 (by rw [List.map_append]; exact DpAll.append (hfx.ext (Same.cut N1 y6)) (hgx.ext (Same.cut N1 y6)))
        have l := l.same y6
        have S := S.same y6
        have C := C.trans (Chg.of y6)
        subst hN1
        simp only [List.mem_cons, List.not_mem_nil, or_false] at hz
        refine ⟨.ref p6, ss ++ [[(ra - 3, 1), (z, 1)]], _, _, _, _, rfl, C, fun a ha => l a (List.mem_cons_of_mem _ ha), (S.pop md0 ml0).more (by omega), d6.ext (cut_sub q), by rw [List.length_append, ln]; rfl, fun s hsm => ?_⟩
        rcases List.mem_append.mp hsm with y | y
        · exact hs s y
        rw [List.mem_singleton.mp y]
        refine ws_of (q := (z, 1)) (fun p hp => ?_) rfl (by show z ≠ 0; omega) (by show 2 ≤ 2; decide) (by show 2 ≤ 9; decide) (.inr (by show 2 ≤ z.natAbs; omega))
        simp only [List.mem_cons, List.not_mem_nil, or_false] at hp
        rcases hp with y | y <;> rw [y] <;> exact ⟨rfl, by dsimp only; omega, by dsimp only; omega⟩
    · rintro σ G ⟨vf, ss, o2, o3, o4, o5, rfl, C, l, S, df, ln, hs⟩
      exact ⟨_, rfl, k vf ss G C (S.more (by omega)) df (by omega) (by omega) hs⟩
end
end My

set_option Elab.async false
set_option linter.all false
set_option maxRecDepth 100000
set_option maxHeartbeats 4000000
set_option exponentiation.threshold 20000
namespace My
open PySem PySem.Spec PyProof.Rows L2 LamX
/-! ### choices: led, the law's greatest bound, growth -/
theorem drop_last_cons {l : List Int} {i : Nat} (h : i < l.length) : l.drop (l.length - (i + 1)) = l[l.length - 1 - i]'(by omega) :: l.drop (l.length - i) := by
  have e1 : l.length - (i + 1) = l.length - 1 - i := by omega
  have e2 : l.length - i = l.length - 1 - i + 1 := by omega
  rw [e1, e2, List.drop_eq_getElem_cons]
section
variable {P : Program} {w : World} {K : PySem.W.Frag} {mg : Str → Option Value} {base : Heap} {t1 t2 t3 : Tok} {f : Addr} {fd : FuncData} {ad : Ads}
def sp_law_led_to (K : PySem.W.Frag) : Sp := fun vs H Q _ => ∃ (v : V) (s : List (Int × Int)) (x : Int) (t n : Nat), vs = [v, .int x] ∧ Dp K H v (sD s) ∧ (∀ q ∈ s, q.1.natAbs < 2 ^ t) ∧ x.natAbs < 2 ^ n ∧ s.length ≤ 100 ∧ t + (n + 1) * (s.length + 1) ≤ 300000 ∧ ∀ H', Same H H' → Q (.int (hornZ (s.map Prod.fst) x)) H'
theorem ok__law_led_to (F : Fun K "_law_led_to" "_law_led_to" s__law_led_to f fd) (T : Txt K mg t1 t2 t3) : FnOk P w K mg base CX0 1 f fd ["told", "here"] (sp_law_led_to K) := by
  refine F.ok sc__law_led_to (fun vs H Q E h => ?_) (fun cdv A outer s H vs Q E hr h => ?_)
  · obtain ⟨v, st, x, t, n, rfl, _⟩ := h
    rfl
  · obtain ⟨v, st, x, t, n, rfl, hd, hb, hx, hl, hz, k⟩ := h
    obtain ⟨a, xs, rfl, hS, hD⟩ := hd.tupI
    have lx : xs.length = st.length := by rw [hD.length, List.length_map]
    have lm : (st.map Prod.fst).length = st.length := List.length_map _
    refine ⟨_, (pss_cons (ps_set (i := 2) sc__law_led_to.nd rfl (Or.inl rfl) pe_int)
      (pss_cons (ps_for PassesOwn.never rfl (pi_tup (pe_revT (pv 0))) (pg_name (i := 3) sc__law_led_to.nd rfl (Or.inl rfl))
      (pss_one (ps_set (i := 2) sc__law_led_to.nd rfl (Or.inl rfl) (pe_op op_add (pe_op op_mulW (pv 2) (pv 1)) (pe_ix ix_tup (pv 3) pe_int (fun _ _ => rfl))))))
      (pss_one (ps_ret (pv 2))))), ?_⟩
    refine ⟨_, rfl, a, _, rfl, hS, fun p2 n2 => ?_⟩
    have S2 := same_new (o := .tup xs.reverse) n2
    have hp2 : (upd H p2 (.tup xs.reverse)) p2 = some (.tup xs.reverse) := upd_same
    generalize upd H p2 (.tup xs.reverse) = H0 at S2 hp2 ⊢
    have bd : ∀ i, (hornZ ((st.map Prod.fst).drop i) x).natAbs < 2 ^ (t + (n + 1) * st.length) := fun i => by
      refine Nat.lt_of_lt_of_le (hornZ_bd (t := t) hx fun z hz => ?_) (Nat.pow_le_pow_right (by decide) ?_)
      · obtain ⟨q, hq, rfl⟩ := List.mem_map.mp (List.mem_of_mem_drop hz)
        exact hb q hq
      · have := Nat.mul_le_mul_left (n + 1) (show ((st.map Prod.fst).drop i).length ≤ st.length by rw [List.length_drop, lm]; omega)
        omega
    have z1 : (n + 1) * (st.length + 1) = (n + 1) * st.length + (n + 1) := by rw [Nat.mul_add, Nat.mul_one]
    refine ⟨p2, rfl, ⟨_, .inl (.inl hp2)⟩, for_tup (K := K) (a := p2) (xs := xs.reverse) (fun i σ H' => H' = H0 ∧ ∃ o, σ = [some (.ref a), some (.int x), some (.int (hornZ ((st.map Prod.fst).drop ((st.map Prod.fst).length - i)) x)), o])
      ⟨rfl, _, by rw [Nat.sub_zero, List.drop_length]; rfl⟩ (fun i σ H' _ h => h.1 ▸ .inl (.inl hp2)) ?_ ?_⟩
    · rintro i y σ H' hy ⟨rfl, o, rfl⟩
      have hi : i < xs.length := by
        have := (List.getElem?_eq_some_iff.mp hy).1
        rwa [List.length_reverse] at this
      rw [List.getElem?_reverse hi, lx] at hy
      obtain ⟨q, b, hq, rfl, hbS⟩ := step_at hD hy
      have hbS := seq_same S2 hbS
      have him : i < (st.map Prod.fst).length := by omega
      have eq0 : (st.map Prod.fst)[(st.map Prod.fst).length - 1 - i]'(by omega) = q.1 := by
        have : (st.map Prod.fst)[(st.map Prod.fst).length - 1 - i]? = some q.1 := by rw [lm, List.getElem?_map, hq]; rfl
        rw [List.getElem?_eq_getElem (by omega)] at this
        exact Option.some.inj this
      refine ⟨_, rfl, _, rfl, _, _, rfl, rfl, W2 (bd _) hx (by omega), _, rfl, b, _, 0, _, rfl, rfl, hbS, rfl, _, _, rfl, rfl, rfl, some (.ref b), ?_⟩
      rw [drop_last_cons him, eq0]
      rfl
    · rintro σ H' ⟨rfl, o, rfl⟩
      rw [List.length_reverse, lx, lm, Nat.sub_self, List.drop_zero]
      exact ⟨_, rfl, k _ S2⟩
theorem max_int (a b : Nat) : (if (b : Int) > (a : Int) then (b : Int) else (a : Int)) = ((Nat.max a b : Nat) : Int) := by
  have : Nat.max a b = max a b := rfl
  rw [this]
  split <;> omega
def sp_law_most (K : PySem.W.Frag) : Sp := fun vs H Q _ => ∃ (N : List Addr) (v : V) (ss : List (List (Int × Int))), vs = [v] ∧ Live N H ∧ Dp K (cut N H) v (rowD ss) ∧ ss.length ≤ 9 ∧ (∀ s ∈ ss, WS s 2) ∧ ∀ (B : Nat) (H' : Hp), Same H H' → IsMax ss B → B < 2 ^ 10 → Q (.int (B : Int)) H'
theorem ok__law_most (F : Fun K "_law_most" "_law_most" s__law_most f fd) (T : Txt K mg t1 t2 t3) (C__law_size_at : Ce P w K mg base CX0 5 "_law_size_at" ["told", "wide"] (sp_law_size_at K)) (C__law_less : Ce P w K mg base CX0 1 "_law_less" ["one", "other"] (sp_law_less K)) :
    FnOk P w K mg base CX0 6 f fd ["steps_so"] (sp_law_most K) := by
  refine F.ok sc__law_most (fun vs H Q E h => ?_) (fun cdv A outer s H vs Q E hr h => ?_)
  · obtain ⟨N, v, ss, rfl, _⟩ := h
    rfl
  · obtain ⟨N, v, ss, rfl, l, hd, hl, hs, k⟩ := h
    obtain ⟨a, xs, rfl, hS, hD⟩ := hd.tupI
    have lx : xs.length = ss.length := by rw [hD.length, List.length_map]
    have hS' := seq_un hS
    refine ⟨_, (pss_cons (ps_set (i := 1) sc__law_most.nd rfl (Or.inl rfl) pe_int)
      (pss_cons (ps_for PassesOwn.never rfl (pi_tup (pv 0)) (pg_name (i := 2) sc__law_most.nd rfl (Or.inl rfl))
      (pss_cons (ps_set (i := 3) sc__law_most.nd rfl (Or.inl rfl) pe_int)
      (pss_cons (ps_asg (pe_ce C__law_size_at (hr.mono (by decide)) pass0 (pa_cons (pv 2) (pa_cons (pv 3) pa_nil))) (pg_tup rfl (pgs_cons (pg_name (i := 4) sc__law_most.nd rfl (Or.inl rfl)) (pgs_cons (pg_name (i := 5) sc__law_most.nd rfl (Or.inl rfl)) pgs_nil))))
      (pss_cons (ps_while PassesOwn.never (pt_val (pe_ce C__law_less (hr.mono (by decide)) pass0 (pa_cons (pv 4) (pa_cons (pv 5) pa_nil)))) (pss_cons (ps_set (i := 3) sc__law_most.nd rfl (Or.inl rfl) (pe_op op_add (pv 3) pe_int))
      (pss_one (ps_asg (pe_ce C__law_size_at (hr.mono (by decide)) pass0 (pa_cons (pv 2) (pa_cons (pv 3) pa_nil))) (pg_tup rfl (pgs_cons (pg_name (i := 4) sc__law_most.nd rfl (Or.inl rfl)) (pgs_cons (pg_name (i := 5) sc__law_most.nd rfl (Or.inl rfl)) pgs_nil)))))))
      (pss_one (ps_set (i := 1) sc__law_most.nd rfl (Or.inl rfl) (pe_callB (call_max2 rfl) (by rfl) T.f_max (by decide +kernel) (pa_cons (pv 1) (pa_cons (pv 3) pa_nil)))))))))
      (pss_one (ps_ret (pv 1))))), ?_⟩
    refine ⟨_, rfl, a, rfl, ⟨_, hS'⟩, for_tup (K := K) (a := a) (xs := xs) (fun i σ H' => Same H H' ∧ ∃ (bs : List Nat) (o2 o3 o4 o5 : Option V), σ = [some (.ref a), some (.int ((bs.foldl Nat.max 1 : Nat) : Int)), o2, o3, o4, o5] ∧ bs.length = i ∧ (∀ b ∈ bs, b < 2 ^ 10) ∧ (∀ (j : Nat) (s : List (Int × Int)) (b : Nat), ss[j]? = some s → bs[j]? = some b → Least (RchS s) b))
      ⟨Same.refl H, [], _, _, _, _, rfl, rfl, (fun _ h => by cases h), fun j q x h1 h2 => by cases h2⟩ (fun i σ H' _ h => seq_same h.1 hS') ?_ ?_⟩
    · rintro i y σ H1 hy ⟨s1, bs, o2, o3, o4, o5, rfl, el, hbs, hb⟩
      obtain ⟨e0, h0, dy⟩ := hD.get' hy
      obtain ⟨st, h1, rfl⟩ := map_get h0
      have W := hs st (mem_of_get h1)
      have l9 := W.l9
      have l2 := W.l2
      have bq : ∀ q ∈ st, Bd 2 q := fun q hq => ⟨by rw [W.one q hq]; decide, W.big q hq, by rw [W.one q hq]; decide⟩
      have dyy : ∀ {H2 : Hp}, Same H H2 → Dp K (cut N H2) y (sD st) := fun s2 => dy.ext (Same.cut N s2)
      have fl := W.far_lt
      have fl : farW st < 64 := fl
      have X1 : 1 ≤ farW st := by unfold farW; omega
      refine ⟨_, rfl, _, rfl, N, y, st, 1, 2, rfl, l.same s1, dyy s1, bq, by decide, l2, l9, by decide, fun hi0 lo0 bh0 bl0 lt0 r1 H2 s2 hr1 => ?_⟩
      obtain ⟨p1, ys, rfl, hp1, hys⟩ := hr1.tupI
      cases hys with
      | @cons y1 _ _ _ d1 r1 =>
      cases r1 with
      | @cons y2 _ _ _ d2 r2 =>
      cases r2
      refine ⟨p1, _, rfl, seq_un hp1, rfl, _, _, rfl, _, _, rfl, rfl, ?_⟩
      refine while_by (fun σ H' => Same H H' ∧ ∃ (b : Nat) (vh vl : V) (hi lo : Int × Int), σ = [some (.ref a), some (.int ((bs.foldl Nat.max 1 : Nat) : Int)), some y, some (.int (b : Int)), some vh, some vl] ∧ Dp K (cut N H') vh (nD hi) ∧ Dp K (cut N H') vl (nD lo) ∧ Bd 4500 hi ∧ Bd 4500 lo ∧ ((hi.1 * lo.2 < lo.1 * hi.2) ↔ ¬ RchS st b) ∧
          1 ≤ b ∧ b ≤ farW st ∧ ∀ y, 1 ≤ y → y < b → ¬ RchS st y)
        (fun σ _ => match σ with | [_, _, _, some (.int b), _, _] => farW st - b.toNat | _ => 0)
        ⟨s1.trans s2, 1, y1, y2, hi0, lo0, (by show _ = [_, _, _, some (V.int 1), _, _]; rfl), d1, d2, bh0, bl0, lt0, by decide, X1, fun y a b => by omega⟩ ?_ ?_
      · rintro σ H2 ⟨s2, b, vh, vl, hi, lo, rfl, dh, dl, bh, bl, lt, b1, bX, no⟩
        refine ⟨_, rfl, _, rfl, vh, vl, hi, lo, 4500, rfl, dh.un, dl.un, bh, bl, by decide, _, rfl, ?_⟩
        by_cases g : hi.1 * lo.2 < lo.1 * hi.2
        · rw [decide_eq_true g]
          refine iteT ?_
          have nr := lt.mp g
          have bX2 : b < farW st := by
            rcases Nat.lt_or_ge b (farW st) with z | z
            · exact z
            · have : b = farW st := by omega
              rw [this] at nr
              exact absurd W.far nr
          have eb : (b : Int) + 1 = ((b + 1 : Nat) : Int) := by omega
          refine ⟨_, rfl, _, _, rfl, rfl, ?_⟩
          refine ⟨_, rfl, _, rfl, N, y, st, b + 1, 2, (by show [_, V.int ((b : Int) + 1)] = _; rw [eb]), l.same s2, dyy s2, bq, by decide, l2, l9, by omega, fun hi3 lo3 bh3 bl3 lt3 r3 H3 s3 hr3 => ?_⟩
          obtain ⟨p3, ys, rfl, hp3, hys⟩ := hr3.tupI
          cases hys with
          | @cons z1 _ _ _ d3 r3 =>
          cases r3 with
          | @cons z2 _ _ _ d4 r4 =>
          cases r4
          refine ⟨p3, _, rfl, seq_un hp3, rfl, _, _, rfl, _, _, rfl, rfl, ⟨s2.trans s3, b + 1, z1, z2, hi3, lo3, (by rw [← eb]; rfl), d3, d4, bh3, bl3, lt3, by omega, bX2, fun y a a2 => ?_⟩, ?_⟩
          · by_cases e : y = b
            · rw [e]; exact nr
            · exact no y a (by omega)
          · show farW st - ((b : Int) + 1).toNat < farW st - (b : Int).toNat
            omega
        · rw [decide_eq_false g]
          refine iteF ?_
          have ls : Least (RchS st) b := ⟨b1, Decidable.not_not.mp fun z => g (lt.mpr z), no⟩
          refine ⟨_, rfl, _, rfl, _, _, rfl, ?_⟩
          refine ⟨s2, bs ++ [b], some y, some (.int (b : Int)), some vh, some vl, ?_, by rw [List.length_append, el]; rfl, fun c hc => ?_, fun j z c h3 h4 => ?_⟩
          · rw [List.foldl_append]
            show _ = [_, some (V.int ((Nat.max (bs.foldl Nat.max 1) b : Nat) : Int)), _, _, _, _]
            rw [← max_int]
            rfl
          · rcases List.mem_append.mp hc with z | z
            · exact hbs c z
            · rw [List.mem_singleton.mp z]; omega
          · by_cases c0 : j < bs.length
            · rw [List.getElem?_append_left c0] at h4
              exact hb j z c h3 h4
            · have hj := (List.getElem?_eq_some_iff.mp h4).1
              rw [List.length_append] at hj
              have hj2 : j = i := by
                have : [b].length = 1 := rfl
                omega
              subst hj2
              rw [h1] at h3
              cases h3
              rw [List.getElem?_append_right (by omega), el, Nat.sub_self] at h4
              cases h4
              exact ls
      · rintro σ H' Q1 Q2 hq ⟨v1, h1, v2, h2, a, b, p, q, n, e1, e2, e3, e4, e5, e6, c, hc, r⟩
        exact ⟨v1, h1, v2, h2, a, b, p, q, n, e1, e2, e3, e4, e5, e6, c, hc, hq _ _ r⟩
    · rintro σ H1 ⟨s1, bs, o2, o3, o4, o5, rfl, el, hbs, hb⟩
      exact ⟨_, rfl, k _ H1 s1 ⟨bs, by omega, hb, rfl⟩ (max_lt bs 1 (by decide) hbs)⟩
def sp_law_grow (K : PySem.W.Frag) (d : Nat) : Sp := fun vs H Q _ => ∃ (v : V) (ss : List (List (Int × Int))) (x : Int) (n B : Nat), vs = [v, .int x, .int (d : Int)] ∧ Dp K H v (rowD ss) ∧ (∀ s ∈ ss, WS s 2) ∧ IsMax ss B ∧ B < x.natAbs ∧ x.natAbs < 2 ^ n ∧ 11 ≤ n ∧ n * 10 ^ d ≤ 64000 ∧ ∀ H', Same H H' → Q (.bl true) H'
def sp_none : Sp := fun _ _ _ _ => False
end
end My

set_option Elab.async false
set_option linter.all false
set_option maxRecDepth 100000
set_option maxHeartbeats 8000000
set_option exponentiation.threshold 20000
namespace My
open PySem PySem.Spec PyProof.Rows L2 LamX
section
variable {P : Program} {w : World} {K : PySem.W.Frag} {mg : Str → Option Value} {base : Heap} {t1 t2 t3 : Tok} {f : Addr} {fd : FuncData} {ad : Ads}
def sp_refuse_many (K : PySem.W.Frag) : Sp := fun vs H Q _ => ∃ b : Nat, vs = [.int b] ∧ 2 * b + 1 ≤ 2000 ∧ Q .non H
theorem ok_refuse_many (F : Fun K "refuse_many" "refuse_many" s_refuse_many f fd) (T : Txt K mg t1 t2 t3) : FnOk P w K mg base CX0 1 f fd ["bound"] (sp_refuse_many K) := by
  refine F.ok sc_refuse_many (fun vs H Q E h => ?_) (fun cdv A outer s0 H vs Q E hr h => ?_)
  · obtain ⟨b, rfl, _⟩ := h
    rfl
  · obtain ⟨b, rfl, hb, k⟩ := h
    refine ⟨_, (pss_one (ps_if (pt_cmpR op_gt (pe_op op_add (pe_op op_mulW pe_int (pv 0)) pe_int) (pe_glob (v := .int 2000) rfl T.g_MOST_LOOKED_AT.choose_spec ⟨_, rfl⟩) (nomark _)) (pss_one ps_never) pss_nil)), ?_⟩
    refine ⟨_, rfl, 2, (b : Int), rfl, rfl, W2 (c := 3) (d := 11) (by decide) (by rw [Int.natAbs_natCast]; exact Nat.lt_of_le_of_lt (show _ ≤ 1000 by omega) (by decide)) (by decide), _, _, rfl, rfl, _, _, rfl, rfl, _, rfl, ?_⟩
    rw [decide_eq_false (by omega)]
    exact iteF k
def sp_integers_of (K : PySem.W.Frag) : Sp := fun vs H Q _ => ∃ (v : V) (s : List (Int × Int)), vs = [v] ∧ Dp K H v (sD s) ∧ s.length ≤ 1000 ∧ ∀ (a : Addr) (H' : Hp), Same H H' → H a = none → H' a = some (.lst ((s.map Prod.fst).map V.int)) → Q (.ref a) H'
theorem ok_integers_of (F : Fun K "integers_of" "integers_of" s_integers_of f fd) (T : Txt K mg t1 t2 t3) : FnOk P w K mg base CX0 1 f fd ["step"] (sp_integers_of K) := by
  refine F.ok sc_integers_of (fun vs H Q E h => ?_) (fun cdv A outer s H vs Q E hr h => ?_)
  · obtain ⟨v, st, rfl, _⟩ := h
    rfl
  · obtain ⟨v, st, rfl, hd, hl, k⟩ := h
    obtain ⟨a, xs, rfl, hS, hD⟩ := hd.tupI
    have lx : xs.length = st.length := by rw [hD.length, List.length_map]
    refine ⟨_, (pss_one (ps_ret (pe_lc (own := [("top", 1), ("_", 2)]) (g := gTup K 2 (gCons (gName 1) (gCons (gName 2) gNil))) rfl sc_integers_of.nd (pi_tup (pv 0)) (blkOk_by (N := ["step", "top", "_"]) (sc := defScope s_integers_of) (by decide +kernel)) (fun _ _ _ _ _ => by exact (pg_tup rfl (pgs_cons (pg_name (i := 1) sc_integers_of.nd rfl (Or.inl rfl)) (pgs_cons (pg_name (i := 2) sc_integers_of.nd rfl (Or.inl rfl)) pgs_nil)))) (fun _ _ _ _ _ => by exact pts_nil) (fun _ _ _ _ _ => by exact (pv 1))))), ?_⟩
    refine ⟨_, rfl, a, rfl, ⟨_, hS⟩, fun D hD' => ?_⟩
    refine lc_tup (K := K) (a := a) (xs := xs) (fun i H1 => H1 = upd H D (.lst ((st.take i).map fun q => V.int q.1))) rfl (fun i H1 _ h => h ▸ seq_same (same_new hD') hS) ?_ ?_
    · rintro i x H1 hx rfl
      obtain ⟨q, b, hq, rfl, hb⟩ := step_at hD hx
      have hi := (List.getElem?_eq_some_iff.mp hx).1
      refine ⟨b, _, rfl, seq_same (same_new hD') hb, rfl, _, _, rfl, _, _, rfl, rfl, rfl, ?_⟩
      dsimp only [tYes]
      rw [if_pos rfl]
      refine ⟨_, rfl, _, upd_same, ?_, ?_⟩
      · rw [List.length_map, List.length_take]
        exact small1000 (by omega)
      · rw [upd_upd, take_more hq, List.map_append]
        rfl
    · rintro H1 rfl
      rw [lx, List.take_length]
      exact k D _ (same_new hD') hD' (by rw [upd_same, List.map_map]; rfl)
def kvP (f : Int → Int) (x : Int) (n : Nat) : List (Key × V) := (List.range n).map fun i => (.inl (itF f i x), V.int (i : Nat))
theorem kvP_next (f : Int → Int) (x : Int) (n : Nat) : kvP f x (n + 1) = kvP f x n ++ [(.inl (itF f n x), V.int (n : Nat))] := by
  unfold kvP
  rw [List.range_succ, List.map_append]
  rfl
theorem kvP_keys (f : Int → Int) (x : Int) (n : Nat) : (kvP f x n).map (fun kv => kV kv.1) = ((List.range n).map fun i => itF f i x).map V.int := by
  unfold kvP
  rw [List.map_map, List.map_map]
  rfl
theorem kvP_in (f : Int → Int) (x z : Int) (n : Nat) : (valV (kvP f x n) (.inl z)).isSome = decide (z ∈ (List.range n).map fun i => itF f i x) := by
  rw [← valV_any, Bool.eq_iff_iff, List.any_eq_true, decide_eq_true_eq]
  unfold kvP
  constructor
  · rintro ⟨kv, h1, h2⟩
    obtain ⟨i, hi, rfl⟩ := List.mem_map.mp h1
    have := of_decide_eq_true h2
    exact List.mem_map.mpr ⟨i, hi, by injection this⟩
  · intro h
    obtain ⟨i, hi, rfl⟩ := List.mem_map.mp h
    exact ⟨_, List.mem_map.mpr ⟨i, hi, rfl⟩, decide_eq_true rfl⟩
theorem kvP_at {f : Int → Int} {x : Int} {n p : Nat} (nd : ((List.range n).map fun i => itF f i x).Nodup) (hp : p < n) : valV (kvP f x n) (.inl (itF f p x)) = some (V.int (p : Nat)) := by
  have nk : ((kvP f x n).map (·.1)).Nodup := by
    have e : (kvP f x n).map (·.1) = ((List.range n).map fun i => itF f i x).map (fun z => (.inl z : Key)) := by
      unfold kvP
      rw [List.map_map, List.map_map]
      rfl
    rw [e]
    exact nd.map _ (fun a b h => fun e => h (by injection e))
  exact val_nodup nk (.inl (itF f p x), V.int (p : Nat)) (List.mem_map.mpr ⟨p, List.mem_range.mpr hp, rfl⟩)
theorem ints_few {B : Nat} {l : List Int} (nd : l.Nodup) (h : ∀ z ∈ l, z.natAbs ≤ B) : l.length ≤ 2 * B + 1 := by
  have := List.Nodup.length_le_of_subset (l₂ := (List.range (2 * B + 1)).map fun (i : Nat) => (i : Int) - B) nd fun z hz => by
    have := h z hz
    exact List.mem_map.mpr ⟨(z + B).toNat, List.mem_range.mpr (by omega), by omega⟩
  rwa [List.length_map, List.length_range] at this
theorem none_back {H H' : Hp} {a : Addr} (S : Same H H') (h : H' a = none) : H a = none := by
  cases e : H a with
  | none => rfl
  | some o => rw [S _ _ e] at h; cases h
def backV : Option Nat → V
  | none => .non
  | some p => .int (p : Nat)
def sp_path_of (K : PySem.W.Frag) : Sp := fun vs H Q _ => ∃ (a : Addr) (ns : List Int) (B t : Nat) (x : Int), vs = [.ref a, .int B, .int x] ∧ SqL K H a (ns.map V.int) ∧ (∀ z ∈ ns, z.natAbs < 2 ^ t) ∧ t + 11 * ns.length ≤ 400000 ∧ B ≤ 1000 ∧
  ∀ (n : Nat) (back : Option Nat) (L T : Addr) (H' : Hp), Path (hornZ ns) B x n back → n ≤ 2 * B + 2 → Same H H' → H L = none → H T = none → L ≠ T → H' L = some (.lst (((List.range n).map fun i => itF (hornZ ns) i x).map V.int)) → H' T = some (.tup [.ref L, backV back]) → Q (.ref T) H'
end
end My

set_option Elab.async false
set_option linter.all false
set_option maxRecDepth 100000
set_option maxHeartbeats 8000000
set_option exponentiation.threshold 20000
namespace My
open PySem PySem.Spec PyProof.Rows L2 LamX
def itV (f : Int → Int) (x : Int) (n : Nat) : List V := ((List.range n).map fun i => itF f i x).map V.int
theorem itV_next (f : Int → Int) (x : Int) (n : Nat) : itV f x (n + 1) = itV f x n ++ [V.int (itF f n x)] := by
  unfold itV
  rw [List.range_succ, List.map_append, List.map_append]
  rfl
theorem itV_len (f : Int → Int) (x : Int) (n : Nat) : (itV f x n).length = n := by unfold itV; rw [List.length_map, List.length_map, List.length_range]
theorem itV_get (f : Int → Int) (x : Int) {n i : Nat} (h : i < n) : (itV f x n)[i]? = some (V.int (itF f i x)) := by
  unfold itV
  rw [List.getElem?_map, List.getElem?_map, List.getElem?_range h]
  rfl
theorem upd_own {H : Hp} {a : Addr} {o : HO} (h : H a = some o) : upd H a o = H := by
  funext b
  by_cases e : b = a
  · rw [e, upd_same, h]
  · rw [upd_ne e]
theorem itV_last (f : Int → Int) (x : Int) {n : Nat} (h : 1 ≤ n) : atI (itV f x n) (-1) = some (V.int (itF f (n - 1) x)) :=
  atI_last' (n := n - 1) (by rw [itV_len]; omega) (itV_get f x (by omega))
section
variable {P : Program} {w : World} {K : PySem.W.Frag} {mg : Str → Option Value} {base : Heap} {t1 t2 t3 : Tok} {f : Addr} {fd : FuncData} {ad : Ads}
/-- one number more, and that one -/
def sp_number_in (K : PySem.W.Frag) : Sp := fun vs H Q _ => ∃ (a L : Addr) (ns : List Int) (t q n : Nat) (x : Int), vs = [.ref a, .ref L, .int n] ∧ SqL K (cut [L] H) a (ns.map V.int) ∧ (∀ z ∈ ns, z.natAbs < 2 ^ t) ∧ t + (q + 1) * ns.length ≤ 400000 ∧ 1 ≤ n ∧ n ≤ 3000 ∧ (itF (hornZ ns) (n - 1) x).natAbs < 2 ^ q ∧
  H L = some (.lst (itV (hornZ ns) x n)) ∧ Q (.int (itF (hornZ ns) n x)) (upd H L (.lst (itV (hornZ ns) x (n + 1))))
/-- on until a size is come to -/
def sp_grown (K : PySem.W.Frag) : Sp := fun vs H Q _ => ∃ (a L : Addr) (ns : List Int) (t q n B sz : Nat) (x : Int), vs = [.ref a, .ref L, .int sz] ∧ SqL K (cut [L] H) a (ns.map V.int) ∧ (∀ z ∈ ns, z.natAbs < 2 ^ t) ∧ t + (q + 1) * ns.length ≤ 400000 ∧ 1 ≤ n ∧ n + q ≤ 100000 ∧ sz ≤ 2 ^ q ∧ GrowOk (hornZ ns) B ∧ (∀ u : Int, B < u.natAbs → 2 * u.natAbs ≤ (hornZ ns u).natAbs + B) ∧ B < (itF (hornZ ns) (n - 1) x).natAbs ∧
  H L = some (.lst (itV (hornZ ns) x n)) ∧ ∀ m, n ≤ m → m ≤ n + q → sz ≤ (itF (hornZ ns) (m - 1) x).natAbs → Q .non (upd H L (.lst (itV (hornZ ns) x m)))
end
end My

set_option Elab.async false
set_option linter.all false
set_option maxRecDepth 100000
set_option maxHeartbeats 8000000
set_option exponentiation.threshold 20000
namespace My
open PySem PySem.Spec PyProof.Rows L2 LamX
def meetD : Option (Nat × Nat) → PyData
  | none => .none
  | some (i, j) => .tuple [.int (i : Nat), .int (j : Nat)]
def kvY (ys : List Int) : List (Key × V) := ys.zipIdx.map fun p => (.inl p.1, V.int (p.2 : Nat))
theorem kvY_len (ys : List Int) : (kvY ys).length = ys.length := by unfold kvY; rw [List.length_map, List.length_zipIdx]
theorem kvY_snoc (ys : List Int) (y : Int) : kvY (ys ++ [y]) = kvY ys ++ [(.inl y, V.int (ys.length : Nat))] := by
  unfold kvY
  rw [List.zipIdx_append, List.map_append, Nat.zero_add]
  rfl
theorem kvY_keys (ys : List Int) : (kvY ys).map (·.1) = ys.map fun z => (.inl z : Key) := by
  unfold kvY
  rw [List.map_map, show ((fun x : Key × V => x.1) ∘ fun p : Int × Nat => ((.inl p.1, V.int (p.2 : Nat)) : Key × V)) = (fun z : Int => (.inl z : Key)) ∘ Prod.fst from rfl, ← List.map_map, List.zipIdx_map_fst]
theorem kvY_in (ys : List Int) (z : Int) : (valV (kvY ys) (.inl z)).isSome = decide (z ∈ ys) := by
  rw [← valV_any, Bool.eq_iff_iff, List.any_eq_true, decide_eq_true_eq]
  have e := kvY_keys ys
  constructor
  · rintro ⟨kv, h1, h2⟩
    have h2 := of_decide_eq_true h2
    have : kv.1 ∈ (kvY ys).map (·.1) := List.mem_map.mpr ⟨kv, h1, rfl⟩
    rw [e, h2] at this
    obtain ⟨y, hy, ey⟩ := List.mem_map.mp this
    injection ey with ey
    exact ey ▸ hy
  · intro h
    have : (.inl z : Key) ∈ (kvY ys).map (·.1) := by rw [e]; exact List.mem_map.mpr ⟨z, h, rfl⟩
    obtain ⟨kv, h1, h2⟩ := List.mem_map.mp this
    exact ⟨kv, h1, decide_eq_true h2⟩
theorem kvY_none {ys : List Int} {z : Int} (h : z ∉ ys) : valV (kvY ys) (.inl z) = none := by
  have := kvY_in ys z
  rw [decide_eq_false h] at this
  cases e : valV (kvY ys) (.inl z) with
  | none => rfl
  | some u => rw [e] at this; cases this
theorem kvY_at {ys : List Int} {z : Int} {j : Nat} (nd : ys.Nodup) (h : ys[j]? = some z) : valV (kvY ys) (.inl z) = some (V.int (j : Nat)) := by
  have nk : ((kvY ys).map (·.1)).Nodup := by
    rw [kvY_keys]
    exact nd.map _ (fun a b h => fun e => h (by injection e))
  refine val_nodup nk (.inl z, V.int (j : Nat)) (List.mem_of_getElem? (i := j) ?_)
  unfold kvY
  rw [List.getElem?_map, List.getElem?_zipIdx, h]
  show some ((.inl z : Key), V.int (0 + j : Nat)) = _
  rw [Nat.zero_add]
section
variable {P : Program} {w : World} {K : PySem.W.Frag} {mg : Str → Option Value} {base : Heap} {t1 t2 t3 : Tok} {f : Addr} {fd : FuncData} {ad : Ads}
def sp_first_meeting (K : PySem.W.Frag) : Sp := fun vs H Q _ => ∃ (N : List Addr) (a b : Addr) (xs ys : List Int), vs = [.ref a, .ref b] ∧ Live N H ∧ SqL K H a (xs.map V.int) ∧ SqL K H b (ys.map V.int) ∧ ys.length ≤ 1000000 ∧ ys.Nodup ∧
  ∀ r, FirstM xs ys r → Told K N H (meetD r) Q
def sp_grown_both (K : PySem.W.Frag) : Sp := fun vs H Q _ => ∃ (a L R : Addr) (ns : List Int) (t q1 q2 n k B : Nat) (x y : Int), vs = [.ref a, .ref L, .ref R] ∧ L ≠ R ∧ SqL K (cut [L, R] H) a (ns.map V.int) ∧ (∀ z ∈ ns, z.natAbs < 2 ^ t) ∧ q2 = t + (q1 + 1) * ns.length ∧ q1 ≤ q2 ∧ t + (q2 + 1) * ns.length ≤ 400000 ∧
  1 ≤ n ∧ n ≤ 3000 ∧ 1 ≤ k ∧ k ≤ 3000 ∧ q2 ≤ 90000 ∧ (itF (hornZ ns) (n - 1) x).natAbs < 2 ^ q1 ∧ (itF (hornZ ns) (k - 1) y).natAbs < 2 ^ q1 ∧ GrowOk (hornZ ns) B ∧ (∀ u : Int, B < u.natAbs → 2 * u.natAbs ≤ (hornZ ns u).natAbs + B) ∧
  B < (itF (hornZ ns) (n - 1) x).natAbs ∧ B < (itF (hornZ ns) (k - 1) y).natAbs ∧ H L = some (.lst (itV (hornZ ns) x n)) ∧ H R = some (.lst (itV (hornZ ns) y k)) ∧
  ∀ n' k', n + 1 ≤ n' → n' ≤ 100000 → k + 1 ≤ k' → k' ≤ 100000 → (itF (hornZ ns) n x).natAbs ≤ (itF (hornZ ns) (n' - 1) x).natAbs → (itF (hornZ ns) k y).natAbs ≤ (itF (hornZ ns) (n' - 1) x).natAbs → (itF (hornZ ns) n x).natAbs ≤ (itF (hornZ ns) (k' - 1) y).natAbs → (itF (hornZ ns) k y).natAbs ≤ (itF (hornZ ns) (k' - 1) y).natAbs →
    Q .non (upd (upd H L (.lst (itV (hornZ ns) x n'))) R (.lst (itV (hornZ ns) y k')))
end
end My

set_option Elab.async false
set_option linter.all false
set_option maxRecDepth 100000
set_option maxHeartbeats 8000000
set_option exponentiation.threshold 20000
namespace My
open PySem PySem.Spec PyProof.Rows L2 LamX
/-! ### whole steps with small numbers -/
abbrev zsL (s : List (Int × Int)) : List Int := s.map Prod.fst
structure ZB (s : List (Int × Int)) : Prop where
  one : ∀ q ∈ s, q.2 = 1
  l3 : 3 ≤ s.length
  l13 : s.length ≤ 13
  sum : nrm (zsL s) ≤ 998
  tr : Tr s
theorem ZB.ne {s : List (Int × Int)} (Z : ZB s) : s ≠ [] := by
  intro z
  have := Z.l3
  rw [z] at this
  simp at this
theorem ZB.split {s : List (Int × Int)} (Z : ZB s) : ∃ l c, zsL s = l ++ [c] ∧ c ≠ 0 ∧ 2 ≤ l.length ∧ restN s = l.map Int.natAbs ∧ headN s = c.natAbs := by
  have e : s = s.dropLast ++ [s.getLast Z.ne] := (List.dropLast_concat_getLast Z.ne).symm
  have en : natL s = (zsL s).map Int.natAbs := by rw [natL_one Z.one, List.map_map]; rfl
  have ei : zsL s = zsL s.dropLast ++ [(s.getLast Z.ne).1] := by
    have := congrArg zsL e
    rwa [show zsL (s.dropLast ++ [s.getLast Z.ne]) = zsL s.dropLast ++ [(s.getLast Z.ne).1] from List.map_append] at this
  refine ⟨zsL s.dropLast, (s.getLast Z.ne).1, ei, Z.tr _ (List.getLast?_eq_some_getLast Z.ne), ?_, ?_, ?_⟩
  · have := Z.l3
    rw [List.length_map, List.length_dropLast]
    omega
  · unfold restN
    rw [en, ei, List.map_append]
    exact List.dropLast_concat
  · unfold headN
    rw [en, ei, List.map_append]
    show ((List.map Int.natAbs (zsL s.dropLast) ++ [(s.getLast Z.ne).1.natAbs]).getLast?).getD 0 = _
    rw [List.getLast?_concat]
    rfl
theorem nrm_abs (l : List Int) : (l.map Int.natAbs).sum = nrm l := rfl
theorem ZB.far {s : List (Int × Int)} (Z : ZB s) : RchS s (farW s) ∧ farW s ≤ 998 := by
  obtain ⟨l, c, e, hc, hl, er, eh⟩ := Z.split
  have hs := Z.sum
  rw [e, nrm_append] at hs
  have : nrm [c] = c.natAbs := by unfold nrm; simp
  have fw : farW s = 1 + nrm l := by unfold farW; rw [er, nrm_abs]
  refine ⟨?_, by omega⟩
  show Reach (restN s) (headN s) (lcmL s) (farW s)
  rw [lcm_one Z.one, fw, er, eh]
  exact reach_far (by rw [List.length_map]; exact hl) (by omega) (by omega) (by rw [nrm_abs]; exact Nat.le_refl _)
theorem ZB.small {s : List (Int × Int)} (Z : ZB s) {B : Nat} (h : Least (RchS s) B) : B ≤ 998 := Nat.le_trans (least_le h (by unfold farW; omega) Z.far.1) Z.far.2
theorem ZB.grow {s : List (Int × Int)} (Z : ZB s) {B : Nat} (h : Least (RchS s) B) : GrowOk (hornZ (zsL s)) B ∧ ∀ u : Int, B < u.natAbs → 2 * u.natAbs ≤ (hornZ (zsL s) u).natAbs + B := by
  obtain ⟨l, c, e, hc, hl, er, eh⟩ := Z.split
  have r : RchS s B := h.ok
  unfold RchS at r
  rw [lcm_one Z.one, er, eh] at r
  rw [e]
  exact grow_all hl hc h.one r
theorem ZB.top {s : List (Int × Int)} (Z : ZB s) : ∀ z ∈ zsL s, z.natAbs < 2 ^ 10 := fun z hz => Nat.lt_of_le_of_lt (nrm_mem hz) (Nat.lt_of_le_of_lt Z.sum (by decide))
theorem isNum_1 {x : Int} (h : x.natAbs ≤ 10 ^ 60) : isNum (nD (x, 1)) = true := by
  show okNum x 1 = true
  unfold okNum
  have e : gc x 1 = 1 := by show ((Nat.gcd x.natAbs 1 : Nat) : Int) = 1; rw [Nat.gcd_one_right]; rfl
  rw [e, decide_eq_true (by omega), decide_eq_true (by omega)]
  decide
section
variable {P : Program} {w : World} {K : PySem.W.Frag} {mg : Str → Option Value} {base : Heap} {t1 t2 t3 : Tok} {f : Addr} {fd : FuncData} {ad : Ads}
theorem lst_cut {N : List Addr} {H H' : Hp} {a : Addr} {xs : List V} (s : Same H H') (h : SqL K H a xs) (n : ∀ b ∈ N, H b = none) : SqL K (cut N H') a xs := lst_same (fun b o e => by
  have : b ∉ N := fun z => by rw [n b z] at e; cases e
  rw [cut_out this]
  exact s _ _ e) h
def sp_need_integer_number (K : PySem.W.Frag) : Sp := fun vs H Q _ => ∃ (N : List Addr) (v : V) (x : Int), vs = [v] ∧ Live N H ∧ Dp K (cut N H) v (nD (x, 1)) ∧ x.natAbs ≤ 10 ^ 60 ∧ ∀ H', Same H H' → Q .non H'
theorem ok_need_integer_number (F : Fun K "need_integer_number" "need_integer_number" s_need_integer_number f fd) (T : Txt K mg t1 t2 t3) (C_need_number : Ce P w K mg base (L2.CX P w) 4 "need_number" ["value"] (sp_need isNum .num ad K)) :
    FnOk P w K mg base (L2.CX P w) 5 f fd ["value"] (sp_need_integer_number K) := by
  refine F.okX sc_need_integer_number (fun vs H Q E h => ?_) (fun cdv A outer s H vs Q E hr h => ?_)
  · obtain ⟨N, v, x, rfl, _⟩ := h
    rfl
  · obtain ⟨N, v, x, rfl, l, hd, hx, k⟩ := h
    refine ⟨_, (pss_cons (ps_expr (pe_ce C_need_number (hr.mono (by decide)) passX (pa_cons (pv 0) pa_nil)))
      (pss_one (ps_if (pt_cmpR op_ne (pe_ix ix_tup (pv 0) pe_int (fun _ _ => rfl)) pe_int (nomark _)) (pss_one ps_never) pss_nil))), ?_⟩
    refine ⟨_, rfl, N, v, _, rfl, l, hd, ?_⟩
    rw [needOut_ok (isNum_1 hx)]
    intro v1 H1 s1 hv1
    obtain ⟨a, rfl, hq⟩ := dp_num hd
    refine ⟨_, rfl, a, _, 1, _, rfl, rfl, seq_same s1 (seq_un hq), rfl, rfl, _, rfl, ?_⟩
    exact iteF (k H1 s1)
def sp_need_two_starts (K : PySem.W.Frag) : Sp := fun vs H Q _ => ∃ (N : List Addr) (v u1 u2 : V) (s : List (Int × Int)) (x y : Int), vs = [v, u1, u2] ∧ Live N H ∧ Dp K (cut N H) v (sD s) ∧ Dp K (cut N H) u1 (nD (x, 1)) ∧ Dp K (cut N H) u2 (nD (y, 1)) ∧ ZB s ∧ isStep (sD s) = true ∧ x.natAbs ≤ 10 ^ 60 ∧ y.natAbs ≤ 10 ^ 60 ∧
  ∀ B, Least (RchS s) B → Told K N H (.tuple [.list ((zsL s).map PyData.int), .int (B : Int)]) Q
def sp_comes_together (K : PySem.W.Frag) : Sp := fun vs H Q _ => ∃ (N : List Addr) (v u1 u2 : V) (s : List (Int × Int)) (x y : Int), vs = [v, u1, u2] ∧ Live N H ∧ Dp K (cut N H) v (sD s) ∧ Dp K (cut N H) u1 (nD (x, 1)) ∧ Dp K (cut N H) u2 (nD (y, 1)) ∧ ZB s ∧ isStep (sD s) = true ∧ x.natAbs ≤ 10 ^ 60 ∧ y.natAbs ≤ 10 ^ 60 ∧
  ∀ r, Meet (hornZ (zsL s)) x y r → (∀ i j, r = some (i, j) → i < 100000 ∧ j < 100000) → Told K N H (meetD r) Q
end
end My

set_option Elab.async false
set_option linter.all false
set_option maxRecDepth 100000
set_option maxHeartbeats 8000000
set_option exponentiation.threshold 20000
namespace My
open PySem PySem.Spec PyProof.Rows L2 LamX
/-! ### dicts whose keys are ints -/
def IK (ks : List (Int × V)) : List (Key × V) := ks.map fun p => (.inl p.1, p.2)
theorem ik_in (ks : List (Int × V)) (z : Int) : (valV (IK ks) (.inl z)).isSome = decide (z ∈ ks.map Prod.fst) := by
  rw [← valV_any, Bool.eq_iff_iff, List.any_eq_true, decide_eq_true_eq]
  unfold IK
  constructor
  · rintro ⟨kv, h1, h2⟩
    obtain ⟨p, hp, rfl⟩ := List.mem_map.mp h1
    have := of_decide_eq_true h2
    exact List.mem_map.mpr ⟨p, hp, by injection this⟩
  · intro h
    obtain ⟨p, hp, rfl⟩ := List.mem_map.mp h
    exact ⟨_, List.mem_map.mpr ⟨p, hp, rfl⟩, decide_eq_true rfl⟩
theorem ik_at {ks : List (Int × V)} {z : Int} {v : V} (nd : (ks.map Prod.fst).Nodup) (h : (z, v) ∈ ks) : valV (IK ks) (.inl z) = some v := by
  have nk : ((IK ks).map (·.1)).Nodup := by
    have e : (IK ks).map (·.1) = (ks.map Prod.fst).map (fun z => (.inl z : Key)) := by
      unfold IK
      rw [List.map_map, List.map_map]
      rfl
    rw [e]
    exact nd.map _ (fun a b h => fun e => h (by injection e))
  exact val_nodup nk (.inl z, v) (List.mem_map.mpr ⟨(z, v), h, rfl⟩)
theorem ik_none {ks : List (Int × V)} {z : Int} (h : z ∉ ks.map Prod.fst) : valV (IK ks) (.inl z) = none := by
  have := ik_in ks z
  rw [decide_eq_false h] at this
  cases e : valV (IK ks) (.inl z) with
  | none => rfl
  | some u => rw [e] at this; cases this
theorem ik_new {ks : List (Int × V)} {z : Int} (v : V) (h : z ∉ ks.map Prod.fst) : putK (IK ks) (.inl z) v = IK (ks ++ [(z, v)]) := by
  rw [putK_new v (ik_none h)]
  unfold IK
  rw [List.map_append]
  rfl
theorem ik_len (ks : List (Int × V)) : (IK ks).length = ks.length := List.length_map _
/-! ### choices -/
def zsS (s : List (Int × Int)) : List Int := s.map Prod.fst
def fol (ss : List (List (Int × Int))) (x : Int) : List Int := ss.map fun s => hornZ (zsS s) x
def folV (M : Nat) (zs : List Int) : List V := zs.map fun z => if z.natAbs ≤ M then V.int z else V.non
abbrev rowsI (ns : List (List Int)) : PyData := .list (ns.map fun n => .list (n.map PyData.int))
/-- steps that may be chosen from: told and let -/
structure Cho (ss : List (List (Int × Int))) (t : Nat) : Prop where
  ne : 1 ≤ ss.length
  le : ss.length ≤ 8
  ws : ∀ s ∈ ss, WS s t
  t3 : t ≤ 300
theorem Cho.good {ss : List (List (Int × Int))} {t : Nat} (C : Cho ss t) : GoodRow ss ∧ ss.findIdx? (fun s => !isLet s) = none :=
  ⟨⟨C.ne, C.le, fun s hs => (C.ws s hs).ok⟩, List.findIdx?_eq_none_iff.mpr fun s hs => by rw [(C.ws s hs).isLet]; rfl⟩
theorem st_normW {F : L2.St → Hp → Prop} {σ τ : L2.St} {H : Hp} (e : σ = τ) (h : F τ H) : F σ H := e ▸ h
theorem dp_exU {K : PySem.W.Frag} {H H' : Hp} {v : V} {d : PyData} (h : Dp K H v d) (s : Same H H') : Dp K H' v d := h.ext s
section
variable {P : Program} {w : World} {K : PySem.W.Frag} {mg : Str → Option Value} {base : Heap} {t1 t2 t3 : Tok} {f : Addr} {fd : FuncData} {ad : Ads}
def sp_need_goal (K : PySem.W.Frag) : Sp := fun vs H Q _ => ∃ (N : List Addr) (v u1 u2 : V) (ss : List (List (Int × Int))) (t : Nat) (x y : Int), vs = [v, u1, u2] ∧ Live N H ∧ Dp K (cut N H) v (rowD ss) ∧ Cho ss t ∧ Dp K (cut N H) u1 (nD (x, 1)) ∧ Dp K (cut N H) u2 (nD (y, 1)) ∧ x.natAbs ≤ 10 ^ 60 ∧ y.natAbs ≤ 10 ^ 60 ∧ ∀ H', Same H H' → Q .non H'
theorem ok_need_goal (F : Fun K "need_goal" "need_goal" s_need_goal f fd) (T : Txt K mg t1 t2 t3) (C_need_choices : Ce P w K mg base (L2.CX P w) 6 "need_choices" ["steps"] (sp_need_choices ad K)) (C_need_integer_number : Ce P w K mg base (L2.CX P w) 5 "need_integer_number" ["value"] (sp_need_integer_number K)) :
    FnOk P w K mg base (L2.CX P w) 7 f fd ["steps", "start", "goal"] (sp_need_goal K) := by
  refine F.okX sc_need_goal (fun vs H Q E h => ?_) (fun cdv A outer s H vs Q E hr h => ?_)
  · obtain ⟨N, v, u1, u2, ss, t, x, y, rfl, _⟩ := h
    rfl
  · obtain ⟨N, v, u1, u2, ss, t, x, y, rfl, l, hd, C, h1, h2, x60, y60, k⟩ := h
    refine ⟨_, (pss_cons (ps_expr (pe_ce C_need_choices (hr.mono (by decide)) passX (pa_cons (pv 0) pa_nil)))
      (pss_cons (ps_expr (pe_ce C_need_integer_number (hr.mono (by decide)) passX (pa_cons (pv 1) pa_nil)))
      (pss_one (ps_expr (pe_ce C_need_integer_number (hr.mono (by decide)) passX (pa_cons (pv 2) pa_nil)))))), ?_⟩
    obtain ⟨gr, gf⟩ := C.good
    refine ⟨_, rfl, N, v, _, rfl, l, hd, .inr ⟨ss, rfl, gr, .inr ⟨gf, fun H1 s1 => ?_⟩⟩⟩
    refine ⟨_, rfl, N, u1, x, rfl, l.same s1, dp_ex h1 s1, x60, fun H2 s2 => ?_⟩
    have s3 := s1.trans s2
    exact ⟨_, rfl, N, u2, y, rfl, l.same s3, dp_ex h2 s3, y60, fun H3 s4 => k _ (s3.trans s4)⟩
def sp_most_to (K : PySem.W.Frag) : Sp := fun vs H Q _ => ∃ (N : List Addr) (v u : V) (ss : List (List (Int × Int))) (t b : Nat) (y : Int), vs = [v, u] ∧ Live N H ∧ Dp K (cut N H) v (rowD ss) ∧ Cho ss t ∧ Dp K (cut N H) u (nD (y, 1)) ∧ IsMax ss b ∧ b ≤ 999 ∧ y.natAbs ≤ 999 ∧ ∀ H', Same H H' → Q (.int (Nat.max b y.natAbs : Nat)) H'
theorem ok_most_to (F : Fun K "most_to" "most_to" s_most_to f fd) (T : Txt K mg t1 t2 t3) (C_bound_of_all : Ce P w K mg base CX0 3 "bound_of_all" ["steps"] (sp_bound_of_all K)) (C_refuse_many : Ce P w K mg base CX0 1 "refuse_many" ["bound"] (sp_refuse_many K)) :
    FnOk P w K mg base CX0 4 f fd ["steps", "goal"] (sp_most_to K) := by
  refine F.ok sc_most_to (fun vs H Q E h => ?_) (fun cdv A outer s H vs Q E hr h => ?_)
  · obtain ⟨N, v, u, ss, t, b, y, rfl, _⟩ := h
    rfl
  · obtain ⟨N, v, u, ss, t, b, y, rfl, l, hd, C, h2, hB, b9, y9, k⟩ := h
    refine ⟨_, (pss_cons (ps_set (i := 2) sc_most_to.nd rfl (Or.inl rfl) (pe_callB (call_max2 rfl) (by rfl) T.f_max (by decide +kernel) (pa_cons (pe_ce C_bound_of_all (hr.mono (by decide)) pass0 (pa_cons (pv 0) pa_nil)) (pa_cons (pe_callB call_abs (by rfl) T.f_abs (by decide +kernel) (pa_cons (pe_ix ix_tup (pv 1) pe_int (fun _ _ => rfl)) pa_nil)) pa_nil))))
      (pss_cons (ps_expr (pe_ce C_refuse_many (hr.mono (by decide)) pass0 (pa_cons (pv 2) pa_nil)))
      (pss_one (ps_ret (pv 2))))), ?_⟩
    obtain ⟨q, rfl, hq⟩ := dp_num h2
    have ne : ss ≠ [] := fun e => by have := C.ne; rw [e] at this; cases this
    have le9 : ss.length ≤ 9 := by have := C.le; omega
    refine ⟨_, rfl, N, v, ss, t, rfl, l, hd, ne, le9, C.ws, C.t3, fun B2 H1 s1 hB2 => ?_⟩
    rw [hB2.same hB]
    refine ⟨_, rfl, q, _, 0, _, rfl, rfl, seq_same s1 (seq_un hq), rfl, _, rfl, _, _, rfl, ?_⟩
    have em : (if (if y < 0 then -y else y) > (b : Int) then (if y < 0 then -y else y) else (b : Int)) = ((Nat.max b y.natAbs : Nat) : Int) := by
      have : (if y < 0 then -y else y) = (y.natAbs : Int) := by split <;> omega
      rw [this]
      exact max_int _ _
    rw [em]
    have le : Nat.max b y.natAbs ≤ 999 := Nat.max_le.mpr ⟨b9, y9⟩
    exact ⟨_, rfl, _, rfl, by omega, _, rfl, k _ s1⟩
theorem dp_rowAt {H : Hp} {rs : List V} {ns : List (List Int)} {i : Nat} {r : V} (h : DpAll K H rs (ns.map fun n => .list (n.map PyData.int))) (hr : rs[i]? = some r) : ∃ n b, ns[i]? = some n ∧ r = .ref b ∧ SqL K H b (n.map V.int) := by
  obtain ⟨d, hd, g⟩ := h.get' hr
  obtain ⟨n, hn, rfl⟩ := map_get hd
  obtain ⟨b, xs, rfl, h1, h2⟩ := g.lstI
  rw [dp_ints h2] at h1
  exact ⟨n, b, hn, rfl, h1⟩
def sp_followers_of (K : PySem.W.Frag) : Sp := fun vs H Q _ => ∃ (v : V) (ns : List (List Int)) (x : Int) (M t : Nat), vs = [v, .int x, .int (M : Int)] ∧ Dp K H v (rowsI ns) ∧ ns.length ≤ 1000 ∧ (∀ n ∈ ns, n.length ≤ 9 ∧ ∀ z ∈ n, z.natAbs < 2 ^ t) ∧ x.natAbs < 2 ^ 11 ∧ t ≤ 300 ∧
  ∀ (D : Addr) (H' : Hp), Same H H' → H D = none → H' D = some (.lst (folV M (ns.map fun n => hornZ n x))) → Q (.ref D) H'
theorem ok_followers_of (F : Fun K "followers_of" "followers_of" s_followers_of f fd) (T : Txt K mg t1 t2 t3) (C_integer_at : Ce P w K mg base CX0 1 "integer_at" ["tops", "number"] (sp_integer_at K)) : FnOk P w K mg base CX0 2 f fd ["rows", "number", "most"] (sp_followers_of K) := by
  refine F.ok sc_followers_of (fun vs H Q E h => ?_) (fun cdv A outer s H vs Q E hr h => ?_)
  · obtain ⟨v, ns, x, M, t, rfl, _⟩ := h
    rfl
  · obtain ⟨v, ns, x, M, t, rfl, hd, hl, hn, hx, ht, k⟩ := h
    refine ⟨_, (pss_cons (ps_setLc (i := 3) (own := [("tops", 4)]) (g := gName 4) rfl sc_followers_of.nd rfl rfl (sw_true rfl rfl rfl (by decide +kernel)) (pi_list (pv 0)) (blkOk_by (N := ["rows", "number", "most", "found", "tops", "follower"]) (sc := defScope s_followers_of) (by decide +kernel)) (fun _ _ _ _ _ => by exact (pg_name (i := 4) sc_followers_of.nd rfl (Or.inl rfl))) (fun _ _ _ _ _ => by exact pts_nil) (fun _ _ _ _ _ => by exact (pe_ce C_integer_at (hr.mono (by decide)) pass0 (pa_cons (pv 4) (pa_cons (pv 1) pa_nil)))))
      (pss_one (ps_ret (pe_lc (own := [("follower", 5)]) (g := gName 5) rfl sc_followers_of.nd (pi_list (pv 3)) (blkOk_by (N := ["rows", "number", "most", "found", "tops", "follower"]) (sc := defScope s_followers_of) (by decide +kernel)) (fun _ _ _ _ _ => by exact (pg_name (i := 5) sc_followers_of.nd rfl (Or.inl rfl))) (fun _ _ _ _ _ => by exact pts_nil) (fun _ _ _ _ _ => by exact (pe_ifExp (pt_cmpR op_le (pe_callB call_abs (by rfl) T.f_abs (by decide +kernel) (pa_cons (pv 5) pa_nil)) (pv 2) (nomark _)) (pv 5) pe_non)))))), ?_⟩
    obtain ⟨a, rs, rfl, hS, hD⟩ := hd.lstI
    have lr : rs.length = ns.length := by rw [hD.length, List.length_map]
    refine ⟨_, rfl, a, rfl, ⟨_, hS⟩, fun D nD => ?_⟩
    have s0 := same_new (o := .lst []) nD
    refine lc_list (K := K) (a := a) (xs := rs) (fun i H1 => H1 = upd H D (.lst ((ns.take i).map fun n => V.int (hornZ n x)))) ?_ (fun i H1 _ h => ?_) (fun i r H1 hri h => ?_) (fun H1 h => ?_)
    · rfl
    · rw [h]; exact lst_same (same_new nD) hS
    · subst h
      obtain ⟨n, b, hni, rfl, hb⟩ := dp_rowAt hD hri
      obtain ⟨hn9, hnt⟩ := hn n (List.mem_of_getElem? hni)
      refine ⟨rfl, _, rfl, _, rfl, b, n, x, t, 11, rfl, lst_same (same_new nD) hb, hnt, hx, by omega, _, upd_same, ?_, ?_⟩
      · rw [List.length_map, List.length_take, sizeLine_eq]; omega
      · rw [upd_upd, take_more hni, List.map_append]
        rfl
    · subst h
      rw [lr, List.take_length]
      have s1 := same_new (o := .lst (ns.map fun n => V.int (hornZ n x))) nD
      have hD1 : (upd H D (.lst (ns.map fun n => V.int (hornZ n x)))) D = some (.lst (ns.map fun n => V.int (hornZ n x))) := upd_same
      generalize upd H D (.lst (ns.map fun n => V.int (hornZ n x))) = J at s1 hD1 ⊢
      refine ⟨_, rfl, D, rfl, ⟨_, .inl (.inl hD1)⟩, fun E nE => ?_⟩
      have s2 := same_new (o := .lst []) nE
      refine lc_list (K := K) (a := D) (xs := ns.map fun n => V.int (hornZ n x)) (fun i H1 => H1 = upd J E (.lst (folV M ((ns.take i).map fun n => hornZ n x)))) ?_ (fun i H1 _ h => ?_) (fun i r H1 hri h => ?_) (fun H1 h => ?_)
      · rfl
      · rw [h]; exact .inl (.inl ((same_new nE) _ _ hD1))
      · subst h
        obtain ⟨n, hni, rfl⟩ := map_get hri
        have hi := (List.getElem?_eq_some_iff.mp hni).1
        refine ⟨rfl, _, rfl, _, rfl, _, rfl, _, _, rfl, rfl, _, rfl, ?_⟩
        rw [abs_if]
        have len : (folV M ((ns.take i).map fun n => hornZ n x)).length < sizeLine := by
          unfold folV
          rw [List.length_map, List.length_map, List.length_take, sizeLine_eq]; omega
        have nxt : ∀ u : V, u = (if (hornZ n x).natAbs ≤ M then V.int (hornZ n x) else V.non) → upd (upd J E (.lst (folV M ((ns.take i).map fun n => hornZ n x)))) E (.lst (folV M ((ns.take i).map fun n => hornZ n x) ++ [u])) = upd J E (.lst (folV M ((ns.take (i + 1)).map fun n => hornZ n x))) := fun u e => by
          rw [upd_upd, take_more hni, List.map_append, e]
          unfold folV
          rw [List.map_append]
          rfl
        by_cases c : (hornZ n x).natAbs ≤ M
        · rw [decide_eq_true (show ((hornZ n x).natAbs : Int) ≤ (M : Int) by omega)]
          exact iteT ⟨_, rfl, _, upd_same, len, nxt _ (if_pos c).symm⟩
        · rw [decide_eq_false (show ¬ ((hornZ n x).natAbs : Int) ≤ (M : Int) by omega)]
          exact iteF ⟨_, upd_same, len, nxt _ (if_neg c).symm⟩
      · subst h
        rw [List.length_map, List.take_length]
        exact k E _ (s1.trans (same_new nE)) (none_back s1 nE) upd_same
theorem keysE_snoc {q : List Ent} {z p : Int} {w : List Nat} : keysE (q ++ [⟨z, w, p⟩]) = keysE q ++ [z] := List.map_append
/-- the graph: each number of the order, its followers -/
def grK (o : List Ent) (as : List Addr) : List (Int × V) := (o.zip as).map fun p => (p.1.z, V.ref p.2)
structure Gph (K : PySem.W.Frag) (H : Hp) (D : Addr) (F : Int → List Int) (M : Nat) (o : List Ent) : Prop where
  ex : ∃ as : List Addr, as.length = o.length ∧ H D = some (.dK (IK (grK o as))) ∧ ∀ (k : Nat) (e : Ent) (a : Addr), o[k]? = some e → as[k]? = some a → H a = some (.lst (folV M (F e.z)))
theorem grK_keys {o : List Ent} {as : List Addr} (h : as.length = o.length) : (grK o as).map Prod.fst = keysE o := by
  unfold grK keysE
  rw [List.map_map, show (Prod.fst ∘ fun p : Ent × Addr => (p.1.z, V.ref p.2)) = Ent.z ∘ Prod.fst from rfl, ← List.map_map, List.map_fst_zip (Nat.le_of_eq h.symm)]
theorem grK_snoc {o : List Ent} {as : List Addr} {e : Ent} {a : Addr} (h : as.length = o.length) : grK o as ++ [(e.z, V.ref a)] = grK (o ++ [e]) (as ++ [a]) := by
  unfold grK
  rw [List.zip_append h.symm, List.map_append]
  rfl
def sp_explored (K : PySem.W.Frag) : Sp := fun vs H Q _ => ∃ (N : List Addr) (v : V) (ss : List (List (Int × Int))) (t M : Nat) (x : Int), vs = [v, .int x, .int (M : Int)] ∧ Live N H ∧ Dp K (cut N H) v (rowD ss) ∧ Cho ss t ∧ M ≤ 1000 ∧
  ∀ (D : Addr) (H' : Hp), Same H H' → H D = none → (if M < x.natAbs then H' D = some (.dK []) else Gph K H' D (fol ss) M (bfsE M (fol ss) x)) → Q (.ref D) H'
theorem ok_explored (F : Fun K "explored" "explored" s_explored f fd) (T : Txt K mg t1 t2 t3) (C_integers_of : Ce P w K mg base CX0 1 "integers_of" ["step"] (sp_integers_of K)) (C_followers_of : Ce P w K mg base CX0 2 "followers_of" ["rows", "number", "most"] (sp_followers_of K)) : FnOk P w K mg base CX0 3 f fd ["steps", "start", "most"] (sp_explored K) := by
  refine F.ok sc_explored (fun vs H Q E h => ?_) (fun cdv A outer s H vs Q E hr h => ?_)
  · obtain ⟨N, v, ss, t, M, x, rfl, _⟩ := h
    rfl
  · obtain ⟨N, v, ss, t, M, x, rfl, l, hd, C, hM, k⟩ := h
    refine ⟨_, (pss_cons (ps_if (pt_cmpR op_gt (pe_callB call_abs (by rfl) T.f_abs (by decide +kernel) (pa_cons (pv 1) pa_nil)) (pv 2) (nomark _)) (pss_one (ps_ret pe_dnewK)) pss_nil)
      (pss_cons (ps_setLc (i := 3) (own := [("step", 11)]) (g := gName 11) rfl sc_explored.nd rfl rfl (sw_true rfl rfl rfl (by decide +kernel)) (pi_tup (pv 0)) (blkOk_by (N := ["steps", "start", "most", "rows", "graph", "order", "met", "at", "number", "followers", "follower", "step"]) (sc := defScope s_explored) (by decide +kernel)) (fun _ _ _ _ _ => by exact (pg_name (i := 11) sc_explored.nd rfl (Or.inl rfl))) (fun _ _ _ _ _ => by exact pts_nil) (fun _ _ _ _ _ => by exact (pe_ce C_integers_of (hr.mono (by decide)) pass0 (pa_cons (pv 11) pa_nil))))
      (pss_cons (ps_set (i := 4) sc_explored.nd rfl (Or.inl rfl) pe_dnewK)
      (pss_cons (ps_set (i := 5) sc_explored.nd rfl (Or.inl rfl) (pe_lst (pa_cons (pv 1) pa_nil)))
      (pss_cons (ps_set (i := 6) sc_explored.nd rfl (Or.inl rfl) (pe_disp (pps_cons (pv 1) pe_bl pps_nil) (by rfl) (by rfl) (fun z => by cases z) (by decide)))
      (pss_cons (ps_set (i := 7) sc_explored.nd rfl (Or.inl rfl) pe_int)
      (pss_cons (ps_while PassesOwn.never (pt_cmpR op_lt (pv 7) (pe_callB call_len_seq (by rfl) T.f_len (by decide +kernel) (pa_cons (pv 5) pa_nil)) (nomark _)) (pss_cons (ps_set (i := 8) sc_explored.nd rfl (Or.inl rfl) (pe_ix ix_list (pv 5) (pv 7) (fun _ _ => rfl)))
      (pss_cons (ps_set (i := 9) sc_explored.nd rfl (Or.inl rfl) (pe_ce C_followers_of (hr.mono (by decide)) pass0 (pa_cons (pv 3) (pa_cons (pv 8) (pa_cons (pv 2) pa_nil)))))
      (pss_cons (ps_asg (pv 9) (pg_sub (pv 4) (pv 8) (set_dI (un1 hr))))
      (pss_cons (ps_for PassesOwn.never rfl (pi_list (pv 9)) (pg_name (i := 10) sc_explored.nd rfl (Or.inl rfl))
      (pss_one (ps_if (PW.pt (pw_and (pt_cmpR op_notN (pv 10) pe_non (nomark _)) (pw_and1 (pt_cmpR (op_notInI (un1 hr)) (pv 10) (pv 6) (by rfl))))) (pss_cons (ps_asg pe_bl (pg_sub (pv 6) (pv 10) (set_dI (un1 hr))))
      (pss_one (ps_expr (pe_bm PySem.F.plainAttrs_list PySem.F.slot_list_append PySem.F.type_list_append mt_append (pv 5) (pa_cons (pv 10) pa_nil))))) pss_nil)))
      (pss_one (ps_aug (i := 7) sc_explored.nd rfl (Or.inl rfl) pe_int ip_add)))))))
      (pss_one (ps_ret (pv 4)))))))))), ?_⟩
    refine ⟨_, rfl, _, rfl, _, rfl, _, _, rfl, rfl, _, rfl, ?_⟩
    rw [abs_if]
    by_cases c : M < x.natAbs
    · rw [decide_eq_true (show (M : Int) < (x.natAbs : Int) by omega)]
      refine iteT fun p np => ?_
      exact k p _ (same_new np) np (by rw [if_pos c]; exact upd_same)
    rw [decide_eq_false (show ¬ (M : Int) < (x.natAbs : Int) by omega)]
    refine iteF ?_
    have k : ∀ (D : Addr) (H' : Hp), Same H H' → H D = none → Gph K H' D (fol ss) M (bfsE M (fol ss) x) → Q (.ref D) H' := fun D H' h1 h2 h3 => k D H' h1 h2 (by rw [if_neg c]; exact h3)
    obtain ⟨av, xs, rfl, hS, hD⟩ := hd.tupI
    have lx : xs.length = ss.length := by rw [hD.length, List.length_map]
    have l8 := C.le
    refine ⟨_, rfl, av, rfl, ⟨_, seq_un hS⟩, fun R nR => ?_⟩
    have smR : ∀ {H' : Hp}, (∀ b o, b ≠ R → H b = some o → H' b = some o) → Same H H' := fun h b o e => h b o (ne_of_none e nR) e
    refine lc_tup (K := K) (a := av) (xs := xs) (fun i H' => (∀ b o, b ≠ R → H b = some o → H' b = some o) ∧ ∃ acc, H' R = some (.lst acc) ∧ acc.length = i ∧ DpAll K (cut [R] H') acc ((ss.take i).map fun s => .list ((zsS s).map PyData.int))) ?_ (fun i H' _ h => seq_same (smR h.1) (seq_un hS)) (fun i u H' hiu h => ?_) (fun H5 h => ?_)
    · exact ⟨fun b o h e => by rw [upd_ne h]; exact e, [], upd_same, rfl, .nil⟩
    · obtain ⟨kp, acc, ha, hl, hda⟩ := h
      obtain ⟨d, hd0, hud⟩ := hD.get' hiu
      obtain ⟨s1, hs1, rfl⟩ := map_get hd0
      have hi := (List.getElem?_eq_some_iff.mp hs1).1
      have s6 := (C.ws s1 (List.mem_of_getElem? hs1)).l9
      refine ⟨rfl, _, rfl, u, s1, rfl, (dp_ex hud (smR kp)).un, by omega, fun a H6 y1 na ha6 => ?_⟩
      have aR : a ≠ R := fun e => by rw [e, ha] at na; cases na
      refine ⟨acc, y1 _ _ ha, Nat.lt_of_le_of_lt (show acc.length ≤ 8 by omega) (by decide), fun b o h e => ?_, _, upd_same, ?_, ?_⟩
      · rw [upd_ne h]
        exact y1 _ _ (kp b o h e)
      · rw [List.length_append, hl]; rfl
      · have tk : ss.take (i + 1) = ss.take i ++ [s1] := by rw [List.take_add_one, hs1]; rfl
        rw [tk, List.map_append, cut_upd List.mem_cons_self]
        refine (hda.ext (Same.cut _ y1)).append (.cons (.lst (.inl (.inl (cut_at (by simpa using aR) ha6))) ?_) .nil)
        have : ∀ zs : List Int, DpAll K (cut [R] H6) (zs.map V.int) (zs.map PyData.int) := fun zs => by
          induction zs with
          | nil => exact .nil
          | cons z zs ih => exact .cons (.int _) ih
        exact this _
    obtain ⟨kp, acc, ha, hl, hda⟩ := h
    rw [lx] at hl hda
    rw [List.take_length] at hda
    have s1 := smR kp
    have dR : Dp K H5 (.ref R) (rowsI (ss.map zsS)) := .lst (.inl (.inl ha)) (by rw [List.map_map]; exact hda.ext (cut_same [R] H5))
    clear hda kp smR hS hD hl ha
    refine fun D nD => ?_
    have nD0 := none_back s1 nD
    have sD := same_new (o := .dK []) nD
    have hD : (upd H5 D (.dK [])) D = some (.dK (IK (grK ([] : List Ent) []))) := upd_same
    generalize upd H5 D (.dK []) = J1 at sD hD ⊢
    refine ⟨_, rfl, (by show 1 ≤ sizeLine; decide), fun O nO => ?_⟩
    have y1 := same_new (o := .lst [V.int x]) nO
    have hO : (upd J1 O (.lst [V.int x])) O = some (.lst ((keysE (bfs M (fol ss) x 0)).map V.int)) := upd_same
    have OD : O ≠ D := fun e => by rw [e, hD] at nO; cases nO
    have nO5 := none_back sD nO
    have sD := sD.trans y1
    have hD := y1 _ _ hD
    generalize upd J1 O (.lst [V.int x]) = J2 at hO sD hD ⊢
    clear y1 nO
    refine fun T nT => ?_
    have TD : T ≠ D := fun e => by rw [e, hD] at nT; cases nT
    have TO : T ≠ O := fun e => by rw [e, hO] at nT; cases nT
    have nT5 := none_back sD nT
    refine ⟨_, rfl, upd_same, [(.inl x, V.bl true)], rfl, by show 1 ≤ 15; decide, ?_⟩
    rw [upd_upd]
    have hT : (upd J2 T (.dK (mergeK [] [(.inl x, V.bl true)]))) T = some (.dK (IK ((keysE (bfs M (fol ss) x 0)).map fun z => (z, V.bl true)))) := upd_same
    have y1 := same_new (o := .dK (mergeK [] [(.inl x, V.bl true)])) nT
    have sD := sD.trans y1
    have hD := y1 _ _ hD
    have hO := y1 _ _ hO
    generalize upd J2 T (.dK (mergeK [] [(.inl x, V.bl true)])) = J3 at hT hO sD hD ⊢
    clear y1 nT
    have xM : x.natAbs ≤ M := by omega
    refine ⟨fun q σ' H' => ∃ (n : Nat), q = 2 * M + 1 - n ∧ (∃ o8 o9 o10, σ' = [some (.ref av), some (.int x), some (.int (M : Int)), some (.ref R), some (.ref D), some (.ref O), some (.ref T), some (.int (n : Int)), o8, o9, o10, none]) ∧ Same H5 H' ∧ n ≤ (bfs M (fol ss) x n).length ∧
      H' O = some (.lst ((keysE (bfs M (fol ss) x n)).map V.int)) ∧ H' T = some (.dK (IK ((keysE (bfs M (fol ss) x n)).map fun z => (z, V.bl true)))) ∧
      ∃ as : List Addr, as.length = n ∧ H' D = some (.dK (IK (grK ((bfs M (fol ss) x n).take n) as))) ∧ (∀ a ∈ as, a ≠ O) ∧ ∀ (k : Nat) (e : Ent) (a : Addr), (bfs M (fol ss) x n)[k]? = some e → as[k]? = some a → H' a = some (.lst (folV M (fol ss e.z))),
      ⟨_, 0, rfl, ⟨_, _, _, rfl⟩, sD, Nat.zero_le _, hO, hT, [], rfl, hD, fun a ha => (nomatch ha), fun k e a _ h => by simp at h⟩, ?_⟩
    clear hO hT hD sD
    rintro q σ H6 ⟨n, rfl, ⟨o8, o9, o10, rfl⟩, s6, nle, hO, hT, as, las, hD, asO, hgr⟩
    have few := bfs_few (F := fol ss) xM n
    refine ⟨_, rfl, _, rfl, O, _, rfl, .inl (.inl (.inl hO)), _, _, rfl, rfl, _, rfl, ?_⟩
    rw [List.length_map, List.length_map]
    by_cases cn : n < (bfs M (fol ss) x n).length
    rotate_left
    · rw [decide_eq_false (by omega)]
      refine iteF ?_
      have fin := bfs_fin xM (n := n) (F := fol ss) (by omega)
      refine ⟨_, rfl, k D H6 (s1.trans s6) nD0 ⟨as, ?_, ?_, ?_⟩⟩
      · rw [← fin]; omega
      · rw [← fin]
        rw [List.take_of_length_le (by omega)] at hD
        exact hD
      · rw [← fin]; exact hgr
    rw [decide_eq_true (by omega)]
    refine iteT ?_
    obtain ⟨e, he⟩ : ∃ e, (bfs M (fol ss) x n)[n]? = some e := ⟨_, List.getElem?_eq_getElem cn⟩
    have eM := bfs_within xM n e (List.mem_of_getElem? he)
    have hb := bfs_some he
    obtain ⟨o, ho⟩ : ∃ o, bfs M (fol ss) x n = o := ⟨_, rfl⟩
    have nd := bfs_nodup (M := M) (F := fol ss) (s := x) n
    rw [ho] at hO hT hD hgr cn he hb few nd nle
    refine ⟨fun σ' H' => (∃ o8 o9 o10, σ' = [some (.ref av), some (.int x), some (.int (M : Int)), some (.ref R), some (.ref D), some (.ref O), some (.ref T), some (.int ((n + 1 : Nat) : Int)), o8, o9, o10, none]) ∧ Same H5 H' ∧ n + 1 ≤ (bfs M (fol ss) x (n + 1)).length ∧
      H' O = some (.lst ((keysE (bfs M (fol ss) x (n + 1))).map V.int)) ∧ H' T = some (.dK (IK ((keysE (bfs M (fol ss) x (n + 1))).map fun z => (z, V.bl true)))) ∧
      ∃ as : List Addr, as.length = n + 1 ∧ H' D = some (.dK (IK (grK ((bfs M (fol ss) x (n + 1)).take (n + 1)) as))) ∧ (∀ a ∈ as, a ≠ O) ∧ ∀ (k : Nat) (e : Ent) (a : Addr), (bfs M (fol ss) x (n + 1))[k]? = some e → as[k]? = some a → H' a = some (.lst (folV M (fol ss e.z))),
      fun σ' H' h => ⟨_, by omega, n + 1, rfl, h⟩, ?_⟩
    have gn : ((keysE o).map V.int)[n]? = some (V.int e.z) := by rw [List.getElem?_map, List.getElem?_map, he]; rfl
    refine ⟨_, rfl, _, rfl, O, _, _, _, rfl, rfl, .inl (.inl hO), atI_nat gn, ?_⟩
    refine ⟨_, rfl, _, rfl, _, rfl, .ref R, ss.map zsS, e.z, M, t, rfl, dR.ext s6, by rw [List.length_map]; omega, fun n hn => ?_, Nat.lt_of_le_of_lt (show e.z.natAbs ≤ 1000 by omega) (by decide), C.t3, fun A H7 s7 nA hA => ?_⟩
    · obtain ⟨s, hs, rfl⟩ := List.mem_map.mp hn
      refine ⟨by unfold zsS; rw [List.length_map]; exact (C.ws s hs).l9, fun z hz => ?_⟩
      obtain ⟨q, hq, rfl⟩ := List.mem_map.mp hz
      exact (C.ws s hs).big q hq
    have hA : H7 A = some (.lst (folV M (fol ss e.z))) := by rw [hA, List.map_map]; rfl
    have AO : A ≠ O := fun c => by rw [c, hO] at nA; cases nA
    have AD : A ≠ D := fun c => by rw [c, hD] at nA; cases nA
    have AT : A ≠ T := fun c => by rw [c, hT] at nA; cases nA
    have hO := s7 _ _ hO
    have hT := s7 _ _ hT
    have hD := s7 _ _ hD
    have s67 := s6.trans s7
    have lt : (o.take n).length = n := by rw [List.length_take]; omega
    have kn : e.z ∉ (grK (o.take n) as).map Prod.fst := by
      rw [grK_keys (by omega)]
      intro c
      obtain ⟨y, hy, ey⟩ := List.mem_map.mp c
      obtain ⟨i, hi⟩ := List.getElem?_of_mem hy
      have li := (List.getElem?_eq_some_iff.mp hi).1
      rw [lt] at li
      rw [List.getElem?_take_of_lt li] at hi
      have a1 : (keysE o)[i]? = some e.z := by rw [List.getElem?_map, hi, ← ey]; rfl
      have a2 : (keysE o)[n]? = some e.z := by rw [List.getElem?_map, he]; rfl
      have := (List.getElem?_inj (by rw [List.length_map]; omega) nd).mp (a1.trans a2.symm)
      omega
    refine ⟨_, rfl, _, rfl, _, rfl, D, _, e.z, rfl, rfl, hD, ?_, ?_⟩
    · rw [ik_len, grK, List.length_map, List.length_zip, lt, las, Nat.min_self, sizeLine_eq]; omega
    rw [ik_new _ kn, grK_snoc (by omega), ← take_more he]
    have sJ : Same H5 (upd H7 D (.dK (IK (grK (o.take (n + 1)) (as ++ [A]))))) := fun b o' h => by rw [upd_ne (ne_of_none h nD)]; exact s67 _ _ h
    have hJO : (upd H7 D (.dK (IK (grK (o.take (n + 1)) (as ++ [A]))))) O = some (.lst ((keysE o).map V.int)) := by rw [upd_ne OD]; exact hO
    have hJT : (upd H7 D (.dK (IK (grK (o.take (n + 1)) (as ++ [A]))))) T = some (.dK (IK ((keysE o).map fun z => (z, V.bl true)))) := by rw [upd_ne TD]; exact hT
    have hJD : (upd H7 D (.dK (IK (grK (o.take (n + 1)) (as ++ [A]))))) D = some (.dK (IK (grK (o.take (n + 1)) (as ++ [A])))) := upd_same
    have hJA : (upd H7 D (.dK (IK (grK (o.take (n + 1)) (as ++ [A]))))) A = some (.lst (folV M (fol ss e.z))) := by rw [upd_ne AD]; exact hA
    have hJg : ∀ (k : Nat) (y : Ent) (a : Addr), o[k]? = some y → (as ++ [A])[k]? = some a → (upd H7 D (.dK (IK (grK (o.take (n + 1)) (as ++ [A]))))) a = some (.lst (folV M (fol ss y.z))) := fun k y a h1 h2 => by
      rcases Nat.lt_or_ge k as.length with z | z
      · rw [List.getElem?_append_left z] at h2
        have h3 := s7 _ _ (hgr k y a h1 h2)
        have : a ≠ D := fun c => by rw [c, hD] at h3; cases h3
        rw [upd_ne this]
        exact h3
      · have lk := (List.getElem?_eq_some_iff.mp h2).1
        rw [List.length_append] at lk
        have ek : k = n := by simp at lk; omega
        subst ek
        rw [List.getElem?_append_right z, las, Nat.sub_self] at h2
        cases h2
        rw [he] at h1
        cases h1
        exact hJA
    have asO' : ∀ a ∈ as ++ [A], a ≠ O ∧ a ≠ T := fun a ha => by
      obtain ⟨k, hk⟩ := List.getElem?_of_mem ha
      have lk := (List.getElem?_eq_some_iff.mp hk).1
      rw [List.length_append] at lk
      have lo : k < o.length := by simp at lk; omega
      have h3 := hJg k o[k] a (List.getElem?_eq_getElem lo) hk
      refine ⟨?_, fun c => by rw [c, hJT] at h3; cases h3⟩
      rcases List.mem_append.mp ha with h | h
      · exact asO a h
      · rw [List.mem_singleton.mp h]; exact AO
    clear hO hT hD hA s67 s7 kn hgr asO nA
    generalize upd H7 D (.dK (IK (grK (o.take (n + 1)) (as ++ [A])))) = J at sJ hJO hJT hJD hJA hJg ⊢
    have lF : (folV M (fol ss e.z)).length = (fol ss e.z).length := List.length_map _
    refine ⟨_, rfl, A, rfl, ⟨_, .inl (.inl hJA)⟩, for_list (K := K) (a := A) (xs := folV M (fol ss e.z)) (fun i σ H' => (∃ o10, σ = [some (.ref av), some (.int x), some (.int (M : Int)), some (.ref R), some (.ref D), some (.ref O), some (.ref T), some (.int (n : Int)), some (.int e.z), some (.ref A), o10, none]) ∧ (∀ b o, b ≠ O → b ≠ T → J b = some o → H' b = some o) ∧
      H' O = some (.lst ((keysE (addN M e.z e.w (fol ss e.z) o i)).map V.int)) ∧ H' T = some (.dK (IK ((keysE (addN M e.z e.w (fol ss e.z) o i)).map fun z => (z, V.bl true))))) ⟨⟨_, rfl⟩, fun b o _ _ h => h, hJO, hJT⟩ (fun i σ H' _ h => .inl (.inl (h.2.1 _ _ AO AT hJA))) ?_ ?_⟩
    · rintro i u σ H8 hu ⟨⟨o10, rfl⟩, kp, hO, hT⟩
      obtain ⟨z, hz, rfl⟩ := map_get hu
      obtain ⟨q, hq⟩ : ∃ q, addN M e.z e.w (fol ss e.z) o i = q := ⟨_, rfl⟩
      have hn := addN_some (M := M) (x := e.z) (w := e.w) (o := o) hz
      rw [hq] at hn hO hT
      have qf : ((keysE q).map fun z => (z, V.bl true)).map Prod.fst = keysE q := by rw [List.map_map]; exact List.map_id _
      have few2 : q.length ≤ 2 * M + 1 := by
        have nd2 := addN_nodup (M := M) (x := e.z) (w := e.w) (fs := fol ss e.z) nd i
        have wi := addN_ind (P := fun o => ∀ e ∈ o, e.z.natAbs ≤ M) (M := M) (x := e.z) (w := e.w) (fs := fol ss e.z) (o := o) (by rw [← ho]; exact bfs_within xM n) (fun o' n z ho' _ _ hz _ e he => by
          rcases List.mem_append.mp he with h | h
          · exact ho' e h
          · rw [List.mem_singleton.mp h]; exact hz) i
        rw [hq] at nd2 wi
        have := few_ints (B := M) nd2 fun z hz => by
          obtain ⟨e, he, rfl⟩ := List.mem_map.mp hz
          exact wi e he
        rwa [List.length_map] at this
      by_cases zM : z.natAbs ≤ M
      · rw [if_pos zM]
        refine ⟨_, rfl, rfl, _, rfl, iteT ⟨_, rfl, _, rfl, T, _, z, rfl, rfl, hT, _, rfl, ?_⟩⟩
        rw [show (if true = true then (!(valV (IK ((keysE q).map fun z => (z, V.bl true))) (.inl z)).isSome) else _) = (!(valV (IK ((keysE q).map fun z => (z, V.bl true))) (.inl z)).isSome) from rfl, ik_in, qf]
        by_cases mem : z ∈ keysE q
        · rw [decide_eq_true mem]
          refine iteF ⟨⟨_, rfl⟩, kp, ?_, ?_⟩
          · rw [hn, if_neg (fun c => c.2 mem)]; exact hO
          · rw [hn, if_neg (fun c => c.2 mem)]; exact hT
        · rw [decide_eq_false mem]
          rw [if_pos ⟨zM, mem⟩] at hn
          refine iteT ⟨_, rfl, _, rfl, T, _, z, rfl, rfl, hT, ?_, ?_⟩
          · rw [ik_len, List.length_map, List.length_map, sizeLine_eq]; omega
          rw [ik_new _ (by rw [qf]; exact mem)]
          have hO8 : (upd H8 T (.dK (IK (((keysE q).map fun z => (z, V.bl true)) ++ [(z, V.bl true)])))) O = some (.lst ((keysE q).map V.int)) := by rw [upd_ne TO.symm]; exact hO
          refine ⟨_, rfl, .inl ⟨rfl, _, .inl (.inl hO8)⟩, _, rfl, O, _, _, rfl, rfl, hO8, by rw [List.length_map, List.length_map, sizeLine_eq]; omega, ⟨_, rfl⟩, fun b o' h1 h2 h => ?_, ?_, ?_⟩
          · rw [upd_ne h1, upd_ne h2]
            exact kp b o' h1 h2 h
          · rw [upd_same, hn, keysE_snoc, List.map_append]; rfl
          · rw [upd_ne TO, upd_same, hn, keysE_snoc, List.map_append]; rfl
      · rw [if_neg zM]
        refine ⟨_, rfl, rfl, _, rfl, iteF ⟨⟨_, rfl⟩, kp, ?_, ?_⟩⟩
        · rw [hn, if_neg (fun c => zM c.1)]; exact hO
        · rw [hn, if_neg (fun c => zM c.1)]; exact hT
    · rintro σ H8 ⟨⟨o10, rfl⟩, kp, hO, hT⟩
      rw [lF, ← hb] at hO hT
      obtain ⟨tt, ht⟩ := bfs_ext (M := M) (F := fol ss) (s := x) n
      rw [ho] at ht
      have lo : n + 1 ≤ o.length := by omega
      have kp' : ∀ a : Addr, a ≠ O → a ≠ T → ∀ o', J a = some o' → H8 a = some o' := fun a h1 h2 o' h => kp a o' h1 h2 h
      refine ⟨_, rfl, _, _, rfl, rfl, ⟨_, _, _, rfl⟩, fun b o' h => ?_, ?_, hO, hT, as ++ [A], by rw [List.length_append, las]; rfl, ?_, fun a ha => (asO' a ha).1, fun k y a h1 h2 => ?_⟩
      · exact kp b o' (fun c => by rw [c, nO5] at h; cases h) (fun c => by rw [c, nT5] at h; cases h) (sJ _ _ h)
      · rw [ht, List.length_append]; omega
      · rw [ht, List.take_append_of_le_length lo]
        exact kp D _ OD.symm TD.symm hJD
      · have lk := (List.getElem?_eq_some_iff.mp h2).1
        rw [List.length_append, las] at lk
        have lk : k < n + 1 := lk
        rw [ht, List.getElem?_append_left (by omega)] at h1
        obtain ⟨c1, c2⟩ := asO' a (List.mem_of_getElem? h2)
        exact kp a _ c1 c2 (hJg k y a h1 h2)
end
end My

set_option Elab.async false
set_option linter.all false
set_option maxRecDepth 100000
set_option maxHeartbeats 8000000
set_option exponentiation.threshold 20000
namespace My
open PySem PySem.Spec PyProof.Rows L2 LamX
def lettD (w : List Nat) : PyData := .tuple (w.map fun i => .int (i : Nat))
def lkK (o : List Ent) (vs : List V) : List (Int × V) := (o.zip vs).map fun p => (p.1.z, p.2)
theorem lkK_keys {o : List Ent} {vs : List V} (h : vs.length = o.length) : (lkK o vs).map Prod.fst = keysE o := by
  unfold lkK keysE
  rw [List.map_map, show (Prod.fst ∘ fun p : Ent × V => (p.1.z, p.2)) = Ent.z ∘ Prod.fst from rfl, ← List.map_map, List.map_fst_zip (Nat.le_of_eq h.symm)]
theorem lkK_snoc {o : List Ent} {vs : List V} {e : Ent} {v : V} (h : vs.length = o.length) : lkK o vs ++ [(e.z, v)] = lkK (o ++ [e]) (vs ++ [v]) := by
  unfold lkK
  rw [List.zip_append h.symm, List.map_append]
  rfl
def LinkOk (H : Hp) (e : Ent) (v : V) : Prop := (e.w = [] ∧ v = .non) ∨ ∃ w i t, e.w = w ++ [i] ∧ v = .ref t ∧ H t = some (.tup [.int e.p, .int (i : Nat)])
theorem dpAll_nats {K : PySem.W.Frag} {H : Hp} : ∀ zs : List Nat, DpAll K H (zs.map fun i => V.int (i : Nat)) (zs.map fun i => PyData.int (i : Nat))
  | [] => .nil
  | z :: zs => .cons (.int _) (dpAll_nats zs)
structure Lks (H : Hp) (L : Addr) (o : List Ent) : Prop where
  ex : ∃ vs : List V, vs.length = o.length ∧ H L = some (.dK (IK (lkK o vs))) ∧ ∀ (k : Nat) (e : Ent) (v : V), o[k]? = some e → vs[k]? = some v → LinkOk H e v
theorem LinkOk.same {H H' : Hp} {e : Ent} {v : V} (h : LinkOk H e v) (s : ∀ t xs, H t = some (.tup xs) → H' t = some (.tup xs)) : LinkOk H' e v := by
  rcases h with h | ⟨w, i, t, h1, h2, h3⟩
  · exact .inl h
  · exact .inr ⟨w, i, t, h1, h2, s _ _ h3⟩
theorem Lks.same {H H' : Hp} {L : Addr} {o : List Ent} (h : Lks H L o) (s : Same H H') : Lks H' L o := by
  obtain ⟨vs, h1, h2, h3⟩ := h.ex
  exact ⟨vs, h1, s _ _ h2, fun k e v a b => (h3 k e v a b).same fun t xs e => s _ _ e⟩
theorem Lks.snoc {H H' : Hp} {L t : Addr} {o : List Ent} {e : Ent} {w : List Nat} {i : Nat} (h : Lks H L o) (ew : e.w = w ++ [i]) (new : e.z ∉ keysE o) (s : Same H H') (ht : H' t = some (.tup [.int e.p, .int (i : Nat)])) :
    ∃ kvs, H' L = some (.dK kvs) ∧ kvs.length = o.length ∧ Lks (upd H' L (.dK (putK kvs (.inl e.z) (.ref t)))) L (o ++ [e]) := by
  obtain ⟨vs, h1, h2, h3⟩ := h.ex
  refine ⟨_, s _ _ h2, by rw [ik_len, lkK, List.length_map, List.length_zip, h1, Nat.min_self], ?_⟩
  rw [ik_new _ (by rw [lkK_keys h1]; exact new), lkK_snoc h1]
  have up : ∀ t' xs, H' t' = some (.tup xs) → (upd H' L (.dK (IK (lkK (o ++ [e]) (vs ++ [.ref t]))))) t' = some (.tup xs) := fun t' xs e => by
    rw [upd_ne (fun c => by rw [c, s _ _ h2] at e; cases e)]
    exact e
  refine ⟨vs ++ [.ref t], by rw [List.length_append, List.length_append, h1]; rfl, upd_same, fun k y v a b => ?_⟩
  rcases Nat.lt_or_ge k o.length with z | z
  · rw [List.getElem?_append_left z] at a
    rw [List.getElem?_append_left (by omega)] at b
    exact (h3 k y v a b).same fun t xs e => up _ _ (s _ _ e)
  · have lk := (List.getElem?_eq_some_iff.mp a).1
    rw [List.length_append] at lk
    have ek : k = o.length := by simp at lk; omega
    subst ek
    rw [List.getElem?_append_right z, Nat.sub_self] at a
    rw [List.getElem?_append_right (by omega), h1, Nat.sub_self] at b
    cases a
    cases b
    exact .inr ⟨w, i, t, ew, rfl, up _ _ ht⟩
theorem Lks.get {H : Hp} {L : Addr} {o : List Ent} {e : Ent} (h : Lks H L o) (nd : (keysE o).Nodup) (he : e ∈ o) : ∃ kvs v, H L = some (.dK kvs) ∧ valV kvs (.inl e.z) = some v ∧ LinkOk H e v := by
  obtain ⟨vs, h1, h2, h3⟩ := h.ex
  obtain ⟨k, hk⟩ := List.getElem?_of_mem he
  have lk := (List.getElem?_eq_some_iff.mp hk).1
  obtain ⟨v, hv⟩ : ∃ v, vs[k]? = some v := ⟨_, List.getElem?_eq_getElem (by omega)⟩
  refine ⟨_, v, h2, ik_at (by rw [lkK_keys h1]; exact nd) ?_, h3 k e v hk hv⟩
  unfold lkK
  exact List.mem_map.mpr ⟨(e, v), List.mem_of_getElem? (i := k) (by rw [List.getElem?_zip_eq_some]; exact ⟨hk, hv⟩), rfl⟩
theorem Lks.isin {H : Hp} {L : Addr} {o : List Ent} (h : Lks H L o) : ∃ kvs, H L = some (.dK kvs) ∧ ∀ z : Int, (valV kvs (.inl z)).isSome = decide (z ∈ keysE o) := by
  obtain ⟨vs, h1, h2, h3⟩ := h.ex
  exact ⟨_, h2, fun z => by rw [ik_in, lkK_keys h1]⟩
section
variable {P : Program} {w : World} {K : PySem.W.Frag} {mg : Str → Option Value} {base : Heap} {t1 t2 t3 : Tok} {f : Addr} {fd : FuncData} {ad : Ads}
def sp_word_in (K : PySem.W.Frag) : Sp := fun vs H Q _ => ∃ (N : List Addr) (D : Addr) (F : Int → List Int) (M : Nat) (s : Int) (e : Ent), vs = [.ref D, .int s, .int e.z] ∧ Live N H ∧ Gph K H D F M (bfsE M F s) ∧ s.natAbs ≤ M ∧ M ≤ 1000 ∧ (∀ x, (F x).length ≤ 1000) ∧ e ∈ bfsE M F s ∧ Told K N H (lettD e.w) Q
theorem ok_word_in (F : Fun K "word_in" "word_in" s_word_in f fd) (T : Txt K mg t1 t2 t3) : FnOk P w K mg base CX0 1 f fd ["graph", "start", "goal"] (sp_word_in K) := by
  refine F.ok sc_word_in (fun vs H Q E h => ?_) (fun cdv A outer s0 H vs Q E hr h => ?_)
  · obtain ⟨N, D, F, M, s, e, rfl, _⟩ := h
    rfl
  · obtain ⟨N, D, F, M, s, e, rfl, l, G, hs, hM, hF, he, k⟩ := h
    refine ⟨_, (pss_cons (ps_set (i := 3) sc_word_in.nd rfl (Or.inl rfl) (pe_disp (pps_cons (pv 1) pe_non pps_nil) (by rfl) (by rfl) (fun z => by cases z) (by decide)))
      (pss_cons (ps_lock (ps_for PassesOwn.never rfl (pi_items (pv 0)) (pg_tup rfl (pgs_cons (pg_name (i := 6) sc_word_in.nd rfl (Or.inl rfl)) (pgs_cons (pg_name (i := 7) sc_word_in.nd rfl (Or.inl rfl)) pgs_nil)))
      (pss_one (ps_for PassesOwn.never rfl (pi_enum (by rfl) T.f_enumerate (pa_cons (pv 7) pa_nil)) (pg_tup rfl (pgs_cons (pg_name (i := 8) sc_word_in.nd rfl (Or.inl rfl)) (pgs_cons (pg_name (i := 9) sc_word_in.nd rfl (Or.inl rfl)) pgs_nil)))
      (pss_one (ps_if (PW.pt (pw_and (pt_cmpR op_notN (pv 9) pe_non (nomark _)) (pw_and1 (pt_cmpR (op_notInI (un1 hr)) (pv 9) (pv 3) (by rfl))))) (pss_one (ps_asg (pe_tup (pa_cons (pv 6) (pa_cons (pv 8) pa_nil))) (pg_sub (pv 3) (pv 9) (set_dI (un1 hr))))) pss_nil))))))
      (pss_cons (ps_set (i := 4) sc_word_in.nd rfl (Or.inl rfl) (pe_lst pa_nil))
      (pss_cons (ps_set (i := 5) sc_word_in.nd rfl (Or.inl rfl) (pv 2))
      (pss_cons (ps_while PassesOwn.never (pt_cmpR op_ne (pv 5) (pv 1) (nomark _)) (pss_cons (ps_asg (pe_ix (ix_dI (un1 hr)) (pv 3) (pv 5) (fun _ _ => rfl)) (pg_tup rfl (pgs_cons (pg_name (i := 5) sc_word_in.nd rfl (Or.inl rfl)) (pgs_cons (pg_name (i := 8) sc_word_in.nd rfl (Or.inl rfl)) pgs_nil))))
      (pss_one (ps_expr (pe_bm PySem.F.plainAttrs_list PySem.F.slot_list_append PySem.F.type_list_append mt_append (pv 4) (pa_cons (pv 8) pa_nil))))))
      (pss_one (ps_ret (pe_callTy call_tuple_of (by rfl) T.f_tuple (by decide +kernel) (pa_cons (pe_revL (pv 4)) pa_nil))))))))), ?_⟩
    refine fun L nL => ?_
    refine ⟨_, rfl, upd_same, [(.inl s, V.non)], rfl, by show 1 ≤ 15; decide, ?_⟩
    rw [upd_upd]
    have y1 := same_new (o := .dK (mergeK [] [(.inl s, V.non)])) nL
    have hL : Lks (upd H L (.dK (mergeK [] [(.inl s, V.non)]))) L (bfs M F s 0) := ⟨[.non], rfl, upd_same, fun k e v a b => by
      match k, a, b with
      | 0, a, b => cases a; cases b; exact .inl ⟨rfl, rfl⟩
      | k + 1, a, b => cases b⟩
    obtain ⟨as, las, hD, hg⟩ := G.ex
    have LD : L ≠ D := fun c => by rw [c, hD] at nL; cases nL
    generalize upd H L (.dK (mergeK [] [(.inl s, V.non)])) = J at y1 hL ⊢
    have hDJ := y1 _ _ hD
    refine ⟨D, _, hDJ, trivial, fun od => ?_⟩
    have nd := bfs_nodup (M := M) (F := F) (s := s) (2 * M + 1)
    obtain ⟨kv, ekv⟩ : ∃ kv, IK (grK (bfsE M F s) as) = kv := ⟨_, rfl⟩
    have lkv : kv.length = (bfsE M F s).length := by rw [← ekv, ik_len, grK, List.length_map, List.length_zip, las, Nat.min_self]
    rw [ekv] at hDJ hD ⊢
    have few : (bfsE M F s).length ≤ 2 * M + 1 := bfs_few hs _
    obtain ⟨Z, eZ⟩ : ∃ Z, upd J D (.frz od (.dK kv)) = Z := ⟨_, rfl⟩
    have hZD : Z D = some (.frz od (.dK kv)) := by rw [← eZ]; exact upd_same
    have hZg : ∀ (k : Nat) (e : Ent) (a : Addr), (bfsE M F s)[k]? = some e → as[k]? = some a → Z a = some (.lst (folV M (F e.z))) ∧ a ≠ L := fun k e a h1 h2 => by
      have h3 := hg k e a h1 h2
      rw [← eZ, upd_ne (fun c => by rw [c, hD] at h3; cases h3)]
      exact ⟨y1 _ _ h3, fun c => by rw [c, nL] at h3; cases h3⟩
    have hZL : Lks Z L (bfs M F s 0) := by
      obtain ⟨vs, h1, h2, h3⟩ := hL.ex
      refine ⟨vs, h1, by rw [← eZ, upd_ne LD]; exact h2, fun k e v a b => (h3 k e v a b).same fun t xs q => ?_⟩
      rw [← eZ, upd_ne (fun c => by rw [c, hDJ] at q; cases q)]
      exact q
    have back : ∀ {H' : Hp}, (∀ b o', b ≠ L → Z b = some o' → H' b = some o') → Same H (upd H' D (.dK kv)) := fun {H'} kp b o' h => by
      by_cases c : b = D
      · subst c
        rw [hD] at h
        cases h
        exact upd_same
      · rw [upd_ne c]
        refine kp b o' (fun c2 => by rw [c2, nL] at h; cases h) ?_
        rw [← eZ, upd_ne c]
        exact y1 _ _ h
    rw [eZ]
    refine ⟨_, rfl, D, od, kv, rfl, hZD, ?_⟩
    refine for_it walk_items (fun n σ H' => (∃ o6 o7 o8 o9, σ = [some (.ref D), some (.int s), some (.int e.z), some (.ref L), none, none, o6, o7, o8, o9]) ∧ (∀ b o', b ≠ L → Z b = some o' → H' b = some o') ∧ Lks H' L (bfs M F s n)) ⟨⟨_, _, _, _, rfl⟩, fun b o' _ h => h, hZL⟩ (fun n σ H' _ h => h.2.1 _ _ LD.symm hZD) ?_ ?_
    · rintro n u σ H1 H2 hn ⟨⟨o6, o7, o8, o9, rfl⟩, kp, hL1⟩ ⟨T, a, b, rfl, nT, rfl, h1, h2⟩
      rw [lkv] at hn
      obtain ⟨y, hy⟩ : ∃ y, (bfsE M F s)[n]? = some y := ⟨_, List.getElem?_eq_getElem hn⟩
      obtain ⟨a', ha'⟩ : ∃ a', as[n]? = some a' := ⟨_, List.getElem?_eq_getElem (by omega)⟩
      have hkv : kv[n]? = some (.inl y.z, V.ref a') := by
        have hzp : ((bfsE M F s).zip as)[n]? = some (y, a') := List.getElem?_zip_eq_some.mpr ⟨hy, ha'⟩
        rw [← ekv, IK, grK, List.map_map, List.getElem?_map, hzp]
        rfl
      have h1 : (kv[n]?.map fun kv => kV kv.1) = some a := h1
      have h2 : (kv[n]?.map Prod.snd) = some b := h2
      rw [hkv] at h1 h2
      have h1 : V.int y.z = a := Option.some.inj h1
      have h2 : V.ref a' = b := Option.some.inj h2
      subst h1 h2
      obtain ⟨hZa, aL⟩ := hZg n y a' hy ha'
      -- the entry stands at its place already
      have hyn : (bfs M F s n)[n]? = some y := by
        rcases Nat.lt_or_ge n (bfs M F s n).length with z | z
        · obtain ⟨tt, ht⟩ := bfs_pre hs (F := F) n
          rw [ht, List.getElem?_append_left z] at hy
          exact hy
        · rw [bfs_fin hs z]; exact hy
      have hb := bfs_some hyn
      have ndn := bfs_nodup (M := M) (F := F) (s := s) n
      obtain ⟨o, ho⟩ : ∃ o, bfs M F s n = o := ⟨_, rfl⟩
      have owi := bfs_within hs (F := F) n
      have orr := (bfs_rooted (M := M) (F := F) (s := s) n)
      rw [ho] at hL1 hyn hb ndn owi orr
      refine ⟨T, _, rfl, .inl (.inl upd_same), rfl, _, _, rfl, _, _, rfl, rfl, ?_⟩
      have t1 := same_new (o := .tup [V.int y.z, V.ref a']) nT
      have kp := fun b o' hb h => t1 b o' (kp b o' hb h)
      have hL1 := hL1.same t1
      generalize upd H1 T (.tup [V.int y.z, V.ref a']) = H2 at kp hL1 ⊢
      clear t1 nT
      refine ⟨_, rfl, a', _, rfl, .inl (.inl (kp _ _ aL hZa)), for_enumL (K := K) (a := a') (xs := folV M (F y.z)) (fun i σ H' => (∃ o8 o9, σ = [some (.ref D), some (.int s), some (.int e.z), some (.ref L), none, none, some (.int y.z), some (.ref a'), o8, o9]) ∧ (∀ b o', b ≠ L → Z b = some o' → H' b = some o') ∧ Lks H' L (addN M y.z y.w (F y.z) o i)) ⟨⟨_, _, rfl⟩, kp, hL1⟩ (fun i σ H' h => .inl (.inl (h.2.1 _ _ aL hZa))) ?_ ?_⟩
      · rintro i u σ H3 hu ⟨⟨o8, o9, rfl⟩, kp, hL1⟩ T2 nT2
        obtain ⟨z, hz, rfl⟩ := map_get hu
        refine ⟨T2, _, rfl, .inl (.inl upd_same), rfl, _, _, rfl, _, _, rfl, rfl, ?_⟩
        obtain ⟨q, hq⟩ : ∃ q, addN M y.z y.w (F y.z) o i = q := ⟨_, rfl⟩
        have hn := addN_some (M := M) (x := y.z) (w := y.w) (o := o) hz
        have nd2 := addN_nodup (M := M) (x := y.z) (w := y.w) (fs := F y.z) ndn i
        have wi := addN_ind (P := fun o => ∀ e ∈ o, e.z.natAbs ≤ M) (M := M) (x := y.z) (w := y.w) (fs := F y.z) (o := o) owi (fun o' n z ho' _ _ hz _ e he => by
          rcases List.mem_append.mp he with h | h
          · exact ho' e h
          · rw [List.mem_singleton.mp h]; exact hz) i
        rw [hq] at hn hL1 nd2 wi
        have few2 : q.length ≤ 2 * M + 1 := by
          have := few_ints (B := M) nd2 fun z hz => by
            obtain ⟨e, he, rfl⟩ := List.mem_map.mp hz
            exact wi e he
          rwa [List.length_map] at this
        have t1 := same_new (o := .tup [V.int (i : Nat), if z.natAbs ≤ M then V.int z else V.non]) nT2
        have kp := fun b o' hb h => t1 b o' (kp b o' hb h)
        have hL1 := hL1.same t1
        generalize upd H3 T2 (.tup [V.int (i : Nat), if z.natAbs ≤ M then V.int z else V.non]) = H4 at kp hL1 ⊢
        clear t1 nT2
        obtain ⟨kvs, hLk, isin⟩ := hL1.isin
        by_cases zM : z.natAbs ≤ M
        · rw [if_pos zM]
          refine ⟨_, rfl, rfl, _, rfl, iteT ⟨_, rfl, _, rfl, L, _, z, rfl, rfl, hLk, _, rfl, ?_⟩⟩
          rw [show (if true = true then (!(valV kvs (.inl z)).isSome) else _) = (!(valV kvs (.inl z)).isSome) from rfl, isin]
          by_cases mem : z ∈ keysE q
          · rw [decide_eq_true mem]
            refine iteF ⟨⟨_, _, rfl⟩, kp, ?_⟩
            rw [hn, if_neg (fun c => c.2 mem)]; exact hL1
          · rw [decide_eq_false mem]
            rw [if_pos ⟨zM, mem⟩] at hn
            refine iteT ⟨_, rfl, _, rfl, (by show 2 ≤ sizeLine; decide), fun t nt => ?_⟩
            obtain ⟨kv2, e1, e2, e3⟩ := hL1.snoc (e := ⟨z, y.w ++ [i], y.z⟩) rfl mem (same_new (o := .tup [V.int y.z, V.int (i : Nat)]) nt) upd_same
            refine ⟨_, rfl, _, rfl, L, kv2, z, rfl, rfl, e1, by rw [e2, sizeLine_eq]; omega, ⟨_, _, rfl⟩, fun b o' h1 h => ?_, ?_⟩
            · rw [upd_ne h1]
              exact same_new nt _ _ (kp b o' h1 h)
            · rw [hn]; exact e3
        · rw [if_neg zM]
          refine ⟨_, rfl, rfl, _, rfl, iteF ⟨⟨_, _, rfl⟩, kp, ?_⟩⟩
          rw [hn, if_neg (fun c => zM c.1)]; exact hL1
      · rintro σ H3 ⟨⟨o8, o9, rfl⟩, kp, hL1⟩
        rw [show (folV M (F y.z)).length = (F y.z).length from List.length_map _, ← hb] at hL1
        exact ⟨⟨_, _, _, _, rfl⟩, kp, hL1⟩
    · rintro σ H1 ⟨⟨o6, o7, o8, o9, rfl⟩, kp, hL1⟩
      refine ⟨kp _ _ LD.symm hZD, ?_⟩
      have fin : bfs M F s kv.length = bfsE M F s := by
        rw [lkv]
        obtain ⟨tt, ht⟩ := bfs_pre hs (F := F) (bfsE M F s).length
        exact bfs_fin hs (by have := congrArg List.length ht; rw [List.length_append] at this; omega)
      rw [fin] at hL1
      have sB := back kp
      have hD1 := kp _ _ LD.symm hZD
      have hL2 : Lks (upd H1 D (.dK kv)) L (bfsE M F s) := by
        obtain ⟨vs, h1, h2, h3⟩ := hL1.ex
        refine ⟨vs, h1, by rw [upd_ne LD]; exact h2, fun k e v a b => (h3 k e v a b).same fun t xs q => ?_⟩
        rw [upd_ne (fun c => by rw [c, hD1] at q; cases q)]
        exact q
      generalize upd H1 D (.dK kv) = H2 at sB hL2 ⊢
      clear hL1 kp hD1 back hZL hZg hZD
      have root := bfs_rooted (M := M) (F := F) (s := s) (2 * M + 1)
      have short := bfs_short (M := M) (F := F) (s := s) (2 * M + 1)
      obtain ⟨o, ho⟩ : ∃ o, bfsE M F s = o := ⟨_, rfl⟩
      rw [show bfs M F s (2 * M + 1) = bfsE M F s from rfl] at root short nd
      rw [ho] at root short nd few he hL2
      refine ⟨(by show 0 ≤ sizeLine; exact Nat.zero_le _), fun W nW => ?_⟩
      have y2 := same_new (o := .lst []) nW
      refine ⟨_, rfl, fun q σ' H' => ∃ (y : Ent) (suf : List Nat), q = y.w.length ∧ y ∈ o ∧ e.w = y.w ++ suf ∧ (∃ o6 o7 o8 o9, σ' = [some (.ref D), some (.int s), some (.int e.z), some (.ref L), some (.ref W), some (.int y.z), o6, o7, o8, o9]) ∧ Same H2 H' ∧ H' W = some (.lst (suf.reverse.map fun i => V.int (i : Nat))),
        ⟨_, e, [], rfl, he, (List.append_nil _).symm, ⟨_, _, _, _, rfl⟩, y2, upd_same⟩, ?_⟩
      rintro q σ H6 ⟨y, suf, rfl, hy, esuf, ⟨o6, o7, o8, o9, rfl⟩, s6, hW⟩
      refine ⟨_, rfl, _, rfl, rfl, _, rfl, ?_⟩
      rcases root.tail y hy with ⟨c1, c2⟩ | ⟨w, i, r, c1, c2, c3, c4⟩
      · have ev : (!decide (V.int y.z = V.int s)) = false := by rw [c2, decide_eq_true rfl]; rfl
        rw [ev]
        refine iteF ?_
        refine ⟨_, rfl, W, _, rfl, .inl (.inl hW), fun R nR => ?_⟩
        have y3 := same_new (o := .lst (suf.reverse.map fun i => V.int (i : Nat)).reverse) nR
        refine ⟨R, _, rfl, .inl ⟨.inl (.inl upd_same), fun p np => ?_⟩⟩
        have s7 := (sB.trans s6).trans y3
        have ew : e.w = suf := by rw [esuf, c1]; rfl
        refine k _ _ (s7.trans (same_new np)) ?_
        have : (suf.reverse.map fun i => V.int (i : Nat)).reverse = e.w.map fun i => V.int (i : Nat) := by rw [← List.map_reverse, List.reverse_reverse, ew]
        rw [this] at s7 ⊢
        rw [this] at np
        refine new_tup (l.same s7) np ?_
        exact dpAll_nats _
      · have ev : (!decide (V.int y.z = V.int s)) = true := by rw [decide_eq_false (fun c => c4 (by injection c))]; rfl
        rw [ev]
        refine iteT ?_
        obtain ⟨kvs, v, hLk, hv, lk⟩ := (hL2.same s6).get nd hy
        obtain ⟨t, rfl, ht⟩ : ∃ t, v = .ref t ∧ H6 t = some (.tup [.int y.p, .int (i : Nat)]) := by
          rcases lk with ⟨d1, _⟩ | ⟨w', i', t, d1, d2, d3⟩
          · rw [c1] at d1; exact absurd d1 (by simp)
          · have := List.append_inj' (c1.symm.trans d1) rfl
            rw [List.cons.injEq] at this
            rw [this.2.1]
            exact ⟨t, d2, d3⟩
        have sh := short e he
        have ly : suf.length < o.length := by have := congrArg List.length esuf; rw [List.length_append] at this; omega
        refine ⟨fun σ' H' => ∃ (suf : List Nat), e.w = w ++ suf ∧ (∃ o6 o7 o8 o9, σ' = [some (.ref D), some (.int s), some (.int e.z), some (.ref L), some (.ref W), some (.int y.p), o6, o7, o8, o9]) ∧ Same H2 H' ∧ H' W = some (.lst (suf.reverse.map fun i => V.int (i : Nat))), fun σ' H' h => ?_, ?_⟩
        · obtain ⟨suf', h1, h2, h3, h4⟩ := h
          exact ⟨_, by rw [c1, List.length_append]; exact Nat.lt_succ_self _, ⟨y.p, w, r⟩, suf', rfl, c2, h1, h2, h3, h4⟩
        refine ⟨_, rfl, _, rfl, L, kvs, y.z, .ref t, rfl, rfl, hLk, hv, ?_⟩
        refine ⟨t, _, rfl, .inl (.inl ht), rfl, _, _, rfl, _, _, rfl, rfl, ?_⟩
        refine ⟨_, rfl, .inl ⟨rfl, _, .inl (.inl hW)⟩, _, rfl, W, _, _, rfl, rfl, hW, by rw [List.length_map, List.length_reverse, sizeLine_eq]; omega, i :: suf, by rw [esuf, c1, List.append_assoc]; rfl, ⟨_, _, _, _, rfl⟩, fun b o' h => ?_, ?_⟩
        · rw [upd_ne (ne_of_none h nW)]
          exact s6 _ _ h
        · rw [upd_same, List.reverse_cons, List.map_append]; rfl
end
end My

set_option Elab.async false
set_option linter.all false
set_option maxRecDepth 100000
set_option maxHeartbeats 8000000
set_option exponentiation.threshold 20000
namespace My
open PySem PySem.Spec PyProof.Rows L2 LamX
def wordTo (o : List Ent) (y : Int) : Option (List Nat) := (o.find? fun e => decide (e.z = y)).map Ent.w
def reachW (ss : List (List (Int × Int))) (M : Nat) (x y : Int) : Option (List Nat) := if x.natAbs ≤ M then wordTo (bfsE M (fol ss) x) y else none
def reachD : Option (List Nat) → PyData
  | none => .none
  | some w => lettD w
theorem wordTo_some {o : List Ent} {e : Ent} (nd : (keysE o).Nodup) (he : e ∈ o) : wordTo o e.z = some e.w := by
  unfold wordTo
  cases h : o.find? fun y => decide (y.z = e.z) with
  | none => exact absurd (List.find?_eq_none.mp h e he) (by simp)
  | some y =>
    have h1 := List.mem_of_find?_eq_some h
    have h2 : y.z = e.z := of_decide_eq_true (List.find?_some (p := fun (y : Ent) => decide (y.z = e.z)) h)
    rw [ent_uniq nd h1 he h2]
    rfl
theorem wordTo_none {o : List Ent} {y : Int} (h : y ∉ keysE o) : wordTo o y = none := by
  unfold wordTo
  rw [List.find?_eq_none.mpr fun e he c => h (List.mem_map.mpr ⟨e, he, of_decide_eq_true c⟩)]
  rfl
section
variable {P : Program} {w : World} {K : PySem.W.Frag} {mg : Str → Option Value} {base : Heap} {t1 t2 t3 : Tok} {f : Addr} {fd : FuncData} {ad : Ads}
def sp_reach (K : PySem.W.Frag) : Sp := fun vs H Q _ => ∃ (N : List Addr) (v u1 u2 : V) (ss : List (List (Int × Int))) (t b : Nat) (x y : Int), vs = [v, u1, u2] ∧ Live N H ∧ Dp K (cut N H) v (rowD ss) ∧ Cho ss t ∧ Dp K (cut N H) u1 (nD (x, 1)) ∧ Dp K (cut N H) u2 (nD (y, 1)) ∧ x.natAbs ≤ 10 ^ 60 ∧ IsMax ss b ∧ b ≤ 999 ∧ y.natAbs ≤ 999 ∧
  Told K N H (reachD (reachW ss (Nat.max b y.natAbs) x y)) Q
theorem ok_reach (F : Fun K "reach" "reach" s_reach f fd) (T : Txt K mg t1 t2 t3) (C_need_goal : Ce P w K mg base (L2.CX P w) 7 "need_goal" ["steps", "start", "goal"] (sp_need_goal K)) (C_most_to : Ce P w K mg base CX0 4 "most_to" ["steps", "goal"] (sp_most_to K)) (C_explored : Ce P w K mg base CX0 3 "explored" ["steps", "start", "most"] (sp_explored K)) (C_word_in : Ce P w K mg base CX0 1 "word_in" ["graph", "start", "goal"] (sp_word_in K)) :
    FnOk P w K mg base (L2.CX P w) 8 f fd ["steps", "start", "goal"] (sp_reach K) := by
  refine F.okX sc_reach (fun vs H Q E h => ?_) (fun cdv A outer s H vs Q E hr h => ?_)
  · obtain ⟨N, v, u1, u2, ss, t, b, x, y, rfl, _⟩ := h
    rfl
  · obtain ⟨N, v, u1, u2, ss, t, b, x, y, rfl, l, hd, C, h1, h2, x60, hB, b9, y9, k⟩ := h
    refine ⟨_, (pss_cons (ps_expr (pe_ce C_need_goal (hr.mono (by decide)) passX (pa_cons (pv 0) (pa_cons (pv 1) (pa_cons (pv 2) pa_nil)))))
      (pss_cons (ps_set (i := 3) sc_reach.nd rfl (Or.inl rfl) (pe_ce C_explored (hr.mono (by decide)) pass0 (pa_cons (pv 0) (pa_cons (pe_ix ix_tup (pv 1) pe_int (fun _ _ => rfl)) (pa_cons (pe_ce C_most_to (hr.mono (by decide)) pass0 (pa_cons (pv 0) (pa_cons (pv 2) pa_nil))) pa_nil)))))
      (pss_one (ps_ret (pe_ifExp (pt_cmpR (op_inI (un1 hr)) (pe_ix ix_tup (pv 2) pe_int (fun _ _ => rfl)) (pv 3) (by rfl)) (pe_ce C_word_in (hr.mono (by decide)) pass0 (pa_cons (pv 3) (pa_cons (pe_ix ix_tup (pv 1) pe_int (fun _ _ => rfl)) (pa_cons (pe_ix ix_tup (pv 2) pe_int (fun _ _ => rfl)) pa_nil)))) pe_non))))), ?_⟩
    obtain ⟨q1, rfl, hq1⟩ := dp_num h1
    obtain ⟨q2, rfl, hq2⟩ := dp_num h2
    refine ⟨_, rfl, _, rfl, _, rfl, N, v, _, _, ss, t, x, y, rfl, l, hd, C, h1, h2, x60, Nat.le_trans y9 (by decide), fun H1 s1 => ?_⟩
    refine ⟨_, rfl, _, rfl, q1, _, 0, _, rfl, rfl, seq_same s1 (seq_un hq1), rfl, _, rfl, _, rfl, N, v, _, ss, t, b, y, rfl, l.same s1, dp_ex hd s1, C, dp_ex h2 s1, hB, b9, y9, fun H2 s2 => ?_⟩
    have s3 := s1.trans s2
    have M9 : Nat.max b y.natAbs ≤ 1000 := Nat.le_trans (Nat.max_le.mpr ⟨b9, y9⟩) (by decide)
    generalize hM : Nat.max b y.natAbs = M at k M9 ⊢
    refine ⟨N, v, ss, t, M, x, rfl, l.same s3, dp_ex hd s3, C, M9, fun D H3 s4 nD hG => ?_⟩
    have s5 := s3.trans s4
    refine ⟨_, rfl, q2, _, 0, _, rfl, rfl, seq_same s5 (seq_un hq2), rfl, _, rfl, D, ?_⟩
    by_cases c : M < x.natAbs
    · rw [if_pos c] at hG
      have e : reachW ss M x y = none := if_neg (by omega)
      rw [e] at k
      refine ⟨_, y, rfl, rfl, hG, _, rfl, ?_⟩
      refine iteF ?_
      exact k _ _ s5 .non
    rw [if_neg c] at hG
    have e : reachW ss M x y = wordTo (bfsE M (fol ss) x) y := if_pos (by omega)
    rw [e] at k
    obtain ⟨as, las, hD, _⟩ := id hG.ex
    refine ⟨_, y, rfl, rfl, hD, _, rfl, ?_⟩
    rw [show (if false = true then _ else (valV (IK (grK (bfsE M (fol ss) x) as)) (.inl y)).isSome) = (valV (IK (grK (bfsE M (fol ss) x) as)) (.inl y)).isSome from rfl, ik_in, grK_keys las]
    have nd : (keysE (bfsE M (fol ss) x)).Nodup := bfs_nodup (M := M) (F := fol ss) (s := x) (2 * M + 1)
    by_cases m : y ∈ keysE (bfsE M (fol ss) x)
    · rw [decide_eq_true m]
      obtain ⟨en, he, rfl⟩ := List.mem_map.mp m
      rw [wordTo_some nd he] at k
      refine iteT ⟨_, rfl, _, rfl, q1, _, 0, _, rfl, rfl, seq_same s5 (seq_un hq1), rfl, _, rfl, q2, _, 0, _, rfl, rfl, seq_same s5 (seq_un hq2), rfl, ?_⟩
      exact ⟨N, D, fol ss, M, x, en, rfl, l.same s5, hG, by omega, M9, fun z => by unfold fol; rw [List.length_map]; have := C.le; omega, he, fun w' H' s' d' => k _ _ (s5.trans s') d'⟩
    · rw [decide_eq_false m]
      rw [wordTo_none m] at k
      exact iteF (k _ _ s5 .non)
end
end My

set_option Elab.async false
set_option linter.all false
set_option maxRecDepth 100000
set_option maxHeartbeats 8000000
set_option exponentiation.threshold 20000
namespace My
open PySem PySem.Spec PyProof.Rows L2 LamX
abbrev natV (w : List Nat) : List V := w.map fun i => V.int (i : Nat)
/-- the law's dict: each number its word -/
structure Wds (N : List Addr) (H : Hp) (D : Addr) (o : List Ent) : Prop where
  ex : ∃ vs : List V, vs.length = o.length ∧ H D = some (.dK (IK (lkK o vs))) ∧ ∀ (k : Nat) (e : Ent) (v : V), o[k]? = some e → vs[k]? = some v → ∃ t, v = .ref t ∧ t ∉ N ∧ H t = some (.tup (natV e.w))
theorem Wds.same {N : List Addr} {H H' : Hp} {D : Addr} {o : List Ent} (h : Wds N H D o) (s : Same H H') : Wds N H' D o := by
  obtain ⟨vs, h1, h2, h3⟩ := h.ex
  exact ⟨vs, h1, s _ _ h2, fun k e v a b => by
    obtain ⟨t, e1, tN, e2⟩ := h3 k e v a b
    exact ⟨t, e1, tN, s _ _ e2⟩⟩
theorem Wds.cut {N : List Addr} {H : Hp} {D : Addr} {o : List Ent} (h : Wds N H D o) (hD : D ∉ N) : Wds N (My.cut N H) D o := by
  obtain ⟨vs, h1, h2, h3⟩ := h.ex
  exact ⟨vs, h1, cut_at hD h2, fun k e v a b => by
    obtain ⟨t, e1, tN, e2⟩ := h3 k e v a b
    exact ⟨t, e1, tN, cut_at tN e2⟩⟩
theorem Wds.line {N : List Addr} {H : Hp} {D O : Addr} {o : List Ent} {xs ys : List V} (h : Wds N H D o) (hO : H O = some (.lst xs)) : Wds N (upd H O (.lst ys)) D o := by
  obtain ⟨vs, h1, h2, h3⟩ := h.ex
  refine ⟨vs, h1, by rw [upd_ne (fun c => by rw [c, hO] at h2; cases h2)]; exact h2, fun k e v a b => ?_⟩
  obtain ⟨t, e1, tN, e2⟩ := h3 k e v a b
  exact ⟨t, e1, tN, by rw [upd_ne (fun c => by rw [c, hO] at e2; cases e2)]; exact e2⟩
theorem Wds.snoc {N : List Addr} {H H' : Hp} {D t : Addr} {o : List Ent} {e : Ent} (h : Wds N H D o) (new : e.z ∉ keysE o) (s : Same H H') (ht : H' t = some (.tup (natV e.w))) (tN : t ∉ N) :
    ∃ kvs, H' D = some (.dK kvs) ∧ kvs.length = o.length ∧ Wds N (upd H' D (.dK (putK kvs (.inl e.z) (.ref t)))) D (o ++ [e]) := by
  obtain ⟨vs, h1, h2, h3⟩ := h.ex
  refine ⟨_, s _ _ h2, by rw [ik_len, lkK, List.length_map, List.length_zip, h1, Nat.min_self], ?_⟩
  rw [ik_new _ (by rw [lkK_keys h1]; exact new), lkK_snoc h1]
  have up : ∀ t' xs, H' t' = some (.tup xs) → (upd H' D (.dK (IK (lkK (o ++ [e]) (vs ++ [.ref t]))))) t' = some (.tup xs) := fun t' xs e => by
    rw [upd_ne (fun c => by rw [c, s _ _ h2] at e; cases e)]
    exact e
  refine ⟨vs ++ [.ref t], by rw [List.length_append, List.length_append, h1]; rfl, upd_same, fun k y v a b => ?_⟩
  rcases Nat.lt_or_ge k o.length with z | z
  · rw [List.getElem?_append_left z] at a
    rw [List.getElem?_append_left (by omega)] at b
    obtain ⟨t', e1, tN', e2⟩ := h3 k y v a b
    exact ⟨t', e1, tN', up _ _ (s _ _ e2)⟩
  · have lk := (List.getElem?_eq_some_iff.mp a).1
    rw [List.length_append] at lk
    have ek : k = o.length := by simp at lk; omega
    subst ek
    rw [List.getElem?_append_right z, Nat.sub_self] at a
    rw [List.getElem?_append_right (by omega), h1, Nat.sub_self] at b
    cases a
    cases b
    exact ⟨t, rfl, tN, up _ _ ht⟩
theorem Wds.get {N : List Addr} {H : Hp} {D : Addr} {o : List Ent} {e : Ent} (h : Wds N H D o) (nd : (keysE o).Nodup) (he : e ∈ o) : ∃ kvs t, H D = some (.dK kvs) ∧ valV kvs (.inl e.z) = some (.ref t) ∧ H t = some (.tup (natV e.w)) := by
  obtain ⟨vs, h1, h2, h3⟩ := h.ex
  obtain ⟨k, hk⟩ := List.getElem?_of_mem he
  have lk := (List.getElem?_eq_some_iff.mp hk).1
  obtain ⟨v, hv⟩ : ∃ v, vs[k]? = some v := ⟨_, List.getElem?_eq_getElem (by omega)⟩
  obtain ⟨t, rfl, _, ht⟩ := h3 k e v hk hv
  refine ⟨_, t, h2, ik_at (by rw [lkK_keys h1]; exact nd) ?_, ht⟩
  unfold lkK
  exact List.mem_map.mpr ⟨(e, .ref t), List.mem_of_getElem? (i := k) (by rw [List.getElem?_zip_eq_some]; exact ⟨hk, hv⟩), rfl⟩
theorem Wds.isin {N : List Addr} {H : Hp} {D : Addr} {o : List Ent} (h : Wds N H D o) : ∃ kvs, H D = some (.dK kvs) ∧ ∀ z : Int, (valV kvs (.inl z)).isSome = decide (z ∈ keysE o) := by
  obtain ⟨vs, h1, h2, h3⟩ := h.ex
  exact ⟨_, h2, fun z => by rw [ik_in, lkK_keys h1]⟩
theorem catA_go {K : PySem.W.Frag} {a b : Addr} {xs ys : List V} {H : Hp} {Q : VK} (h1 : SqT K H a xs) (h2 : H b = some (.tup ys)) (hy : ys ≠ []) (len : xs.length + ys.length ≤ sizeLine) (k : ∀ p H', (p = b ∨ H p = none) → Same H H' → H' p = some (.tup (xs ++ ys)) → Q (.ref p) H') : rCatA K (.ref a) (.ref b) H Q :=
  ⟨a, b, xs, ys, rfl, rfl, h1, .inl (.inl h2), len, fun e => k b H (.inl rfl) (Same.refl _) (by rw [e]; exact h2), fun _ e => absurd e hy, fun _ _ p np => k p _ (.inr np) (same_new np) upd_same⟩
def foundE (ss : List (List (Int × Int))) (M : Nat) (x : Int) : List Ent := if x.natAbs ≤ M then bfsE M (fol ss) x else []
section
variable {P : Program} {w : World} {K : PySem.W.Frag} {mg : Str → Option Value} {base : Heap} {t1 t2 t3 : Tok} {f : Addr} {fd : FuncData} {ad : Ads}
def sp_law_words (K : PySem.W.Frag) : Sp := fun vs H Q _ => ∃ (N : List Addr) (v : V) (ss : List (List (Int × Int))) (t M : Nat) (x : Int), vs = [v, .int x, .int (M : Int)] ∧ Live N H ∧ Dp K (cut N H) v (rowD ss) ∧ Cho ss t ∧ M ≤ 1000 ∧
  ∀ (D : Addr) (H' : Hp), Same H H' → H D = none → Wds N H' D (foundE ss M x) → Q (.ref D) H'
end
end My

set_option Elab.async false
set_option linter.all false
set_option maxRecDepth 100000
set_option maxHeartbeats 8000000
set_option exponentiation.threshold 20000
namespace My
open PySem PySem.Spec PyProof.Rows L2 LamX
theorem max_small {ss : List (List (Int × Int))} {B : Nat} (h : IsMax ss B) (hw : ∀ s ∈ ss, WS s 2) : B ≤ 63 := by
  obtain ⟨bs, hl, hb, rfl⟩ := h
  refine Nat.le_of_lt_succ (max_lt bs 1 (by decide) fun b hbm => ?_)
  obtain ⟨i, hi⟩ := List.getElem?_of_mem hbm
  have li := (List.getElem?_eq_some_iff.mp hi).1
  obtain ⟨s, hs⟩ : ∃ s, ss[i]? = some s := ⟨_, List.getElem?_eq_getElem (by omega)⟩
  have W := hw s (List.mem_of_getElem? hs)
  have h1 := least_le (hb i s b hs hi) (show 1 ≤ farW s by unfold farW; omega) W.far
  have h2 := W.far_lt
  omega
section
variable {M : Nat} {F : Int → List Int} {s : Int} {o : List Ent}
/-- the beginnings of a word belong to numbers that are met -/
theorem Rooted.pre (R : Rooted s F M o) : ∀ (n : Nat) (e : Ent) (i : Nat), e ∈ o → e.w.length = n + i → ∃ y ∈ o, y.w = e.w.take n
  | n, e, 0, he, hn => ⟨e, he, by rw [List.take_of_length_le (by omega)]⟩
  | n, e, i + 1, he, hn => by
    rcases R.tail e he with ⟨c1, _⟩ | ⟨w, j, q, c1, c2, _⟩
    · rw [c1] at hn; simp at hn
    · rw [c1, List.length_append] at hn
      have hn : w.length = n + i := by simp at hn; omega
      obtain ⟨y, hy, ey⟩ := R.pre n ⟨e.p, w, q⟩ i c2 hn
      refine ⟨y, hy, ?_⟩
      rw [ey, c1, List.take_append_of_le_length (by omega)]
theorem Rooted.turn (R : Rooted s F M o) {e : Ent} {i j : Nat} {z : Int} (he : e ∈ o) (hj : e.w[i]? = some j) (hz : leadW F s (e.w.take i) = some z) : ∃ z', (F z)[j]? = some z' ∧ leadW F s (e.w.take (i + 1)) = some z' ∧ ∃ y ∈ o, y.z = z := by
  have li := (List.getElem?_eq_some_iff.mp hj).1
  obtain ⟨y, hy, ey⟩ := R.pre (i + 1) e (e.w.length - (i + 1)) he (by omega)
  have tk : e.w.take (i + 1) = e.w.take i ++ [j] := take_more hj
  have ly := R.leads _ y hy rfl
  rcases R.tail y hy with ⟨c1, _⟩ | ⟨w, j', q, c1, c2, c3, _⟩
  · rw [ey, tk] at c1; exact absurd c1 (by simp)
  · have e1 := c1.symm.trans (ey.trans tk)
    have e2 := List.append_inj' e1 rfl
    have e3 : j' = j := by
      have := e2.2
      rw [List.cons.injEq] at this
      exact this.1
    have lp := R.leads _ ⟨y.p, w, q⟩ c2 rfl
    have lp : leadW F s w = some y.p := lp
    rw [e2.1, hz] at lp
    have ez : z = y.p := Option.some.inj lp
    rw [e3] at c3
    refine ⟨y.z, by rw [ez]; exact c3, by rw [← ey]; exact ly, ⟨y.p, w, q⟩, c2, ez.symm⟩
theorem Rooted.full (R : Rooted s F M o) {e : Ent} (he : e ∈ o) : leadW F s (e.w.take e.w.length) = some e.z := by
  rw [List.take_length]
  exact R.leads _ e he rfl
end
theorem sh_word {w : List Nat} (h1 : w.length ≤ 400) (h2 : ∀ i ∈ w, i < 1000) : Sh 1000000 60 (lettD w) := by
  refine (sh_tup (n := 1921) (k := 0) (ds := w.map fun i => .int (i : Nat)) fun d hd => ?_).mono (by rw [List.length_map]; show w.length * (1921 + 2) + 3 ≤ 1000000; omega) (by decide)
  obtain ⟨i, hi, rfl⟩ := List.mem_map.mp hd
  have := h2 i hi
  exact sh_int (by rw [Int.natAbs_natCast]; exact Nat.lt_trans this (by decide))
theorem rp_word (w : List Nat) : rpOk (lettD w) = true := rfl
theorem word_letters {ss : List (List (Int × Int))} {M : Nat} {x : Int} {e : Ent} (he : e ∈ bfsE M (fol ss) x) : ∀ i ∈ e.w, i < ss.length := fun j hj => by
  have R := bfs_rooted (M := M) (F := fol ss) (s := x) (2 * M + 1)
  obtain ⟨i, hi⟩ := List.getElem?_of_mem hj
  obtain ⟨y, hy, ey⟩ := R.pre i e (e.w.length - i) he (by have := (List.getElem?_eq_some_iff.mp hi).1; omega)
  have ly := R.leads _ y hy rfl
  rw [ey] at ly
  obtain ⟨z', h1, _⟩ := R.turn he hi ly
  have := (List.getElem?_eq_some_iff.mp h1).1
  unfold fol at this
  rwa [List.length_map] at this
theorem reach_spec {ss : List (List (Int × Int))} {M : Nat} {x y : Int} : (reachW ss M x y = none ∧ (x.natAbs ≤ M → y ∉ keysE (bfsE M (fol ss) x))) ∨ (x.natAbs ≤ M ∧ ∃ e ∈ bfsE M (fol ss) x, e.z = y ∧ reachW ss M x y = some e.w) := by
  unfold reachW
  by_cases c : x.natAbs ≤ M
  · rw [if_pos c]
    by_cases m : y ∈ keysE (bfsE M (fol ss) x)
    · obtain ⟨e, he, rfl⟩ := List.mem_map.mp m
      exact .inr ⟨c, e, he, rfl, wordTo_some (bfs_nodup _) he⟩
    · exact .inl ⟨wordTo_none m, fun _ => m⟩
  · rw [if_neg c]
    exact .inl ⟨rfl, fun d => absurd d c⟩
theorem reach_sh {ss : List (List (Int × Int))} {M : Nat} {x y : Int} (hM : M ≤ 150) (l9 : ss.length ≤ 9) : Sh 1000000 60 (reachD (reachW ss M x y)) ∧ rpOk (reachD (reachW ss M x y)) = true := by
  rcases reach_spec (ss := ss) (M := M) (x := x) (y := y) with ⟨e, _⟩ | ⟨c, en, he, _, e⟩
  · rw [e]; exact ⟨sh_none.mono (by decide) (by decide), rfl⟩
  · rw [e]
    have h1 := bfs_short (M := M) (F := fol ss) (s := x) (2 * M + 1) en he
    have h2 := bfs_few (M := M) (F := fol ss) c (2 * M + 1)
    exact ⟨sh_word (by omega) fun i hi => by have := word_letters he i hi; omega, rfl⟩
theorem bfs_first {M : Nat} {F : Int → List Int} {s : Int} : (⟨s, [], s⟩ : Ent) ∈ bfsE M F s := by
  obtain ⟨t, ht⟩ := (bfs_rooted (M := M) (F := F) (s := s) (2 * M + 1)).head
  unfold bfsE
  rw [ht]
  exact List.mem_cons_self
theorem dp_nats {K : PySem.W.Frag} {H : Hp} : ∀ {xs : List V} {w : List Nat}, DpAll K H xs (w.map fun i => PyData.int (i : Nat)) → xs = natV w
  | [], [], _ => rfl
  | [], i :: w, h => nomatch h
  | x :: xs, [], h => nomatch h
  | x :: xs, i :: w, h => by
    cases h with
    | cons a b =>
    cases a
    rw [dp_nats b]
    rfl
theorem told_ifT {b : Bool} {tA tC : TE} {σ : L2.St} {H : Hp} {Q : VK} (R : V → Hp → Prop) (hA : b = true → (∀ v H', R v H' → Q v H') → tA σ H Q) (hC : b = false → (∀ v H', R v H' → Q v H') → tC σ H Q) (k : ∀ v H', R v H' → Q v H') : if b = true then tA σ H Q else tC σ H Q := by
  cases b with
  | true => exact iteT (hA rfl k)
  | false => exact iteF (hC rfl k)
section
variable {P : Program} {w : World} {K : PySem.W.Frag} {mg : Str → Option Value} {base : Heap} {t1 t2 t3 : Tok} {f : Addr} {fd : FuncData} {ad : Ads}
def sp_law_pair_right (K : PySem.W.Frag) : Sp := fun vs H Q _ => ∃ (N : List Addr) (v : V) (ss : List (List (Int × Int))) (x y : Int), vs = [v, .int x, .int y] ∧ Live N H ∧ Dp K (cut N H) v (rowD ss) ∧ 1 ≤ ss.length ∧ ss.length ≤ 3 ∧ (∀ s ∈ ss, WS s 2) ∧ x.natAbs ≤ 100 ∧ y.natAbs ≤ 100 ∧ ∀ H', Same H H' → Q (.bl true) H'
end
end My

set_option Elab.async false
set_option linter.all false
set_option maxRecDepth 100000
set_option maxHeartbeats 8000000
set_option exponentiation.threshold 20000
namespace My
open PySem PySem.Spec PyProof.Rows L2 LamX
/-- what need_integer_number says of a value -/
def intOut (d : PyData) : Option Er := match d with
  | .tuple [.int _, .int b] => if isNum d = true then (if b = 1 then none else some .par) else some .num
  | _ => some .num
theorem isNum_pair {d : PyData} (h : isNum d = true) : ∃ a b, d = .tuple [.int a, .int b] := by
  match d, h with
  | .tuple [.int a, .int b], _ => exact ⟨a, b, rfl⟩
section
variable {P : Program} {w : World} {K : PySem.W.Frag} {mg : Str → Option Value} {base : Heap} {t1 t2 t3 : Tok} {f : Addr} {fd : FuncData} {ad : Ads}
def sp_refuse_many2 (ad : Ads) (K : PySem.W.Frag) : Sp := fun vs H Q E => ∃ (N : List Addr) (b : Nat), vs = [.int (b : Int)] ∧ Live N H ∧ b ≤ 1000000 ∧ (2 * b + 1 ≤ 2000 → Q .non H) ∧ (2000 < 2 * b + 1 → ToldX K ad N H (.er .grt (.int 2000)) Q E)
theorem ok_refuse_many2 (F : Fun K "refuse_many" "refuse_many" s_refuse_many f fd) (T : Txt K mg t1 t2 t3) (XS : Exs P w K mg base ad) : FnOk P w K mg base (L2.CX P w) 4 f fd ["bound"] (sp_refuse_many2 ad K) := by
  refine F.okX sc_refuse_many (fun vs H Q E h => ?_) (fun cdv A outer s0 H vs Q E hr h => ?_)
  · obtain ⟨N, b, rfl, _⟩ := h
    rfl
  · obtain ⟨N, b, rfl, l, hb, k1, k2⟩ := h
    refine ⟨_, (pss_one (ps_if (pt_cmpR op_gt (pe_op op_add (pe_op op_mulW pe_int (pv 0)) pe_int) (pe_glob (v := .int 2000) rfl T.g_MOST_LOOKED_AT.choose_spec ⟨_, rfl⟩) (nomark _)) (pss_one (ps_raise rfl (takes_of rfl rfl rfl rfl) (pmk_ec XS.x_TooGreat hr (pa_cons (pe_glob (v := .int 2000) rfl T.g_MOST_LOOKED_AT.choose_spec ⟨_, rfl⟩) pa_nil)))) pss_nil)), ?_⟩
    refine ⟨_, rfl, 2, (b : Int), rfl, rfl, W2 (c := 3) (d := 21) (by decide) (by rw [Int.natAbs_natCast]; exact Nat.lt_of_le_of_lt hb (by decide)) (by decide), _, _, rfl, rfl, _, _, rfl, rfl, _, rfl, ?_⟩
    by_cases c : 2 * b + 1 ≤ 2000
    · rw [decide_eq_false (by omega)]
      exact iteF (k1 c)
    · rw [decide_eq_true (by omega)]
      refine iteT ?_
      exact mk_fill XS.x_TooGreat fun q hq => told_er (k2 (by omega)) l (Same.refl H) hq (.int _)
def sp_need_integer_number2 (ad : Ads) (K : PySem.W.Frag) : Sp := fun vs H Q E => ∃ (N : List Addr) (v : V) (d : PyData), vs = [v] ∧ Live N H ∧ Dp K (cut N H) v d ∧ (intOut d = none → ∀ H', Same H H' → Q .non H') ∧ ∀ e, intOut d = some e → ToldX K ad N H (.er e d) Q E
theorem ok_need_integer_number2 (F : Fun K "need_integer_number" "need_integer_number" s_need_integer_number f fd) (T : Txt K mg t1 t2 t3) (XS : Exs P w K mg base ad) (C_need_number : Ce P w K mg base (L2.CX P w) 4 "need_number" ["value"] (sp_need isNum .num ad K)) :
    FnOk P w K mg base (L2.CX P w) 5 f fd ["value"] (sp_need_integer_number2 ad K) := by
  refine F.okX sc_need_integer_number (fun vs H Q E h => ?_) (fun cdv A outer s H vs Q E hr h => ?_)
  · obtain ⟨N, v, d, rfl, _⟩ := h
    rfl
  · obtain ⟨N, v, d, rfl, l, hd, k1, k2⟩ := h
    refine ⟨_, (pss_cons (ps_expr (pe_ce C_need_number (hr.mono (by decide)) passX (pa_cons (pv 0) pa_nil)))
      (pss_one (ps_if (pt_cmpR op_ne (pe_ix ix_tup (pv 0) pe_int (fun _ _ => rfl)) pe_int (nomark _)) (pss_one (ps_raise rfl (takes_of rfl rfl rfl rfl) (pmk_ec XS.x_BadParameter hr (pa_cons (pv 0) pa_nil)))) pss_nil))), ?_⟩
    refine ⟨_, rfl, N, v, d, rfl, l, hd, ?_⟩
    cases e : isNum d with
    | false =>
      have eo : intOut d = some .num := by
        unfold intOut
        split
        · rw [if_neg (by rw [e]; decide)]
        · rfl
      rw [needOut_er e]
      exact k2 _ eo
    | true =>
      obtain ⟨x, b, rfl⟩ := isNum_pair e
      rw [needOut_ok e]
      intro v1 H1 s1 hv1
      obtain ⟨a, rfl, hq⟩ := dp_num (q := (x, b)) hd
      refine ⟨_, rfl, a, _, 1, _, rfl, rfl, seq_same s1 (seq_un hq), rfl, rfl, _, rfl, ?_⟩
      have eo : intOut (.tuple [.int x, .int b]) = if b = 1 then none else some .par := by
        show (if isNum (.tuple [.int x, .int b]) = true then _ else _) = _
        rw [if_pos e]
      by_cases b1 : b = 1
      · rw [if_pos b1] at eo
        subst b1
        exact iteF (k1 eo H1 s1)
      · rw [if_neg b1] at eo
        have ev : (!decide (V.int b = V.int 1)) = true := by rw [decide_eq_false (fun c => b1 (by injection c))]; rfl
        rw [ev]
        refine iteT ?_
        exact ⟨_, rfl, mk_fill XS.x_BadParameter fun q hq => told_er (k2 _ eo) l s1 hq (dp_ex hd s1)⟩
end
end My

set_option Elab.async false
set_option linter.all false
set_option maxRecDepth 100000
set_option maxHeartbeats 8000000
set_option exponentiation.threshold 20000
namespace My
open PySem PySem.Spec PyProof.Rows L2 LamX
theorem ik_old {ks : List (Int × V)} {z : Int} (v : V) (h : z ∈ ks.map Prod.fst) : putK (IK ks) (.inl z) v = IK (ks.map fun p => if p.1 = z then (p.1, v) else p) := by
  unfold putK
  rw [valV_any, ik_in, decide_eq_true h, if_pos rfl]
  unfold IK
  rw [List.map_map, List.map_map]
  refine List.map_congr_left fun p _ => ?_
  show (if (Sum.inl p.1 : Key) = .inl z then ((Sum.inl p.1 : Key), v) else (.inl p.1, p.2)) = _
  by_cases c : p.1 = z
  · rw [if_pos (by rw [c])]
    show _ = (fun q : Int × V => ((.inl q.1 : Key), q.2)) (if p.1 = z then (p.1, v) else p)
    rw [if_pos c]
  · rw [if_neg (fun e => c (by injection e))]
    show _ = (fun q : Int × V => ((.inl q.1 : Key), q.2)) (if p.1 = z then (p.1, v) else p)
    rw [if_neg c]
/-- a dict of counts -/
def cntL (ks : List Int) (g : Int → Nat) : List (Int × V) := ks.map fun z => (z, V.int (g z : Nat))
structure Cnt (H : Hp) (L : Addr) (KE : List Int) (g : Int → Nat) (ks : List Int) : Prop where
  at_ : H L = some (.dK (IK (cntL ks g)))
  nd : ks.Nodup
  sub : ∀ z ∈ ks, z ∈ KE
  zero : ∀ z, z ∉ ks → g z = 0
theorem cntL_keys (ks : List Int) (g : Int → Nat) : (cntL ks g).map Prod.fst = ks := by
  unfold cntL
  rw [List.map_map]
  exact List.map_id _
theorem cntL_len (ks : List Int) (g : Int → Nat) : (cntL ks g).length = ks.length := List.length_map _
theorem cnt_get {ks : List Int} {g : Int → Nat} (nd : ks.Nodup) (zero : ∀ z, z ∉ ks → g z = 0) (z : Int) : (valV (IK (cntL ks g)) (.inl z)).getD (.int 0) = .int (g z : Nat) := by
  by_cases m : z ∈ ks
  · have mm : (z, V.int (g z : Nat)) ∈ cntL ks g := List.mem_map.mpr ⟨z, m, rfl⟩
    rw [ik_at (by rw [cntL_keys]; exact nd) mm]
    rfl
  · rw [ik_none (by rw [cntL_keys]; exact m), zero z m]
    rfl
theorem Cnt.put {H : Hp} {L : Addr} {KE ks : List Int} {g : Int → Nat} {z : Int} {c : Nat} (h : Cnt H L KE g ks) (hz : z ∈ KE) :
    ∃ ks', Cnt (upd H L (.dK (putK (IK (cntL ks g)) (.inl z) (.int ((g z + c : Nat) : Int))))) L KE (fun u => if u = z then g z + c else g u) ks' := by
  by_cases m : z ∈ ks
  · refine ⟨ks, ?_, h.nd, h.sub, fun u hu => ?_⟩
    · rw [upd_same, ik_old _ (by rw [cntL_keys]; exact m)]
      unfold cntL
      rw [List.map_map]
      refine congrArg (fun l => some (HO.dK (IK l))) (List.map_congr_left fun u _ => ?_)
      show (if u = z then (u, V.int ((g z + c : Nat) : Int)) else (u, V.int (g u : Nat))) = (u, V.int ((if u = z then g z + c else g u : Nat) : Int))
      by_cases e : u = z
      · rw [if_pos e, if_pos e]
      · rw [if_neg e, if_neg e]
    · show (if u = z then g z + c else g u) = 0
      rw [if_neg (fun e => hu (by rw [e]; exact m))]
      exact h.zero u hu
  · refine ⟨ks ++ [z], ?_, nodup_snoc h.nd m, fun u hu => ?_, fun u hu => ?_⟩
    · rw [upd_same, ik_new _ (by rw [cntL_keys]; exact m)]
      unfold cntL
      rw [List.map_append]
      refine congrArg (fun l => some (HO.dK (IK l))) (congr (congrArg _ (List.map_congr_left fun u hu => ?_)) ?_)
      · show (u, V.int (g u : Nat)) = (u, V.int ((if u = z then g z + c else g u : Nat) : Int))
        rw [if_neg (fun e => m (by rw [← e]; exact hu))]
      · show [(z, V.int ((g z + c : Nat) : Int))] = [(z, V.int ((if z = z then g z + c else g z : Nat) : Int))]
        rw [if_pos rfl]
    · rcases List.mem_append.mp hu with a | a
      · exact h.sub u a
      · rw [List.mem_singleton.mp a]; exact hz
    · show (if u = z then g z + c else g u) = 0
      rw [if_neg (fun e => hu (by rw [e]; exact List.mem_append_right _ List.mem_cons_self))]
      exact h.zero u fun a => hu (List.mem_append_left _ a)
theorem Gph.get {K : PySem.W.Frag} {H : Hp} {D : Addr} {F : Int → List Int} {M : Nat} {o : List Ent} (G : Gph K H D F M o) (nd : (keysE o).Nodup) {z : Int} (h : z ∈ keysE o) : ∃ kvs a, H D = some (.dK kvs) ∧ valV kvs (.inl z) = some (.ref a) ∧ H a = some (.lst (folV M (F z))) := by
  obtain ⟨as, las, hD, hg⟩ := G.ex
  obtain ⟨e, he, rfl⟩ := List.mem_map.mp h
  obtain ⟨k, hk⟩ := List.getElem?_of_mem he
  have lk := (List.getElem?_eq_some_iff.mp hk).1
  obtain ⟨a, ha⟩ : ∃ a, as[k]? = some a := ⟨_, List.getElem?_eq_getElem (by omega)⟩
  refine ⟨_, a, hD, ik_at (by rw [grK_keys las]; exact nd) ?_, hg k e a hk ha⟩
  unfold grK
  exact List.mem_map.mpr ⟨(e, a), List.mem_of_getElem? (i := k) (by rw [List.getElem?_zip_eq_some]; exact ⟨hk, ha⟩), rfl⟩
theorem Gph.same {K : PySem.W.Frag} {H H' : Hp} {D : Addr} {F : Int → List Int} {M : Nat} {o : List Ent} (G : Gph K H D F M o) (s : Same H H') : Gph K H' D F M o := by
  obtain ⟨as, las, hD, hg⟩ := G.ex
  exact ⟨as, las, s _ _ hD, fun k e a h1 h2 => s _ _ (hg k e a h1 h2)⟩
/-- the sums so far -/
def sumC (M : Nat) (F : Int → List Int) (l ks : List Int) (z : Int) : Nat := (ks.map fun x => l.count x * (keepIn M (F x)).count z).sum
theorem sumC_snoc {M : Nat} {F : Int → List Int} {l ks : List Int} {x z : Int} : sumC M F l (ks ++ [x]) z = sumC M F l ks z + l.count x * (keepIn M (F x)).count z := by
  unfold sumC
  rw [List.map_append, List.sum_append]
  simp
section
variable {P : Program} {w : World} {K : PySem.W.Frag} {mg : Str → Option Value} {base : Heap} {t1 t2 t3 : Tok} {f : Addr} {fd : FuncData} {ad : Ads}
def GphO (K : PySem.W.Frag) (H : Hp) (D : Addr) (F : Int → List Int) (M : Nat) (s : Int) : Prop := if M < s.natAbs then H D = some (.dK []) else Gph K H D F M (bfsE M F s)
def keyO (M : Nat) (F : Int → List Int) (s : Int) : List Int := if M < s.natAbs then [] else keysE (bfsE M F s)
theorem GphO.isin {K : PySem.W.Frag} {H : Hp} {D : Addr} {F : Int → List Int} {M : Nat} {s : Int} (G : GphO K H D F M s) : ∃ kvs, H D = some (.dK kvs) ∧ ∀ z : Int, (valV kvs (.inl z)).isSome = decide (z ∈ keyO M F s) := by
  unfold GphO at G
  unfold keyO
  by_cases c : M < s.natAbs
  · rw [if_pos c] at G
    exact ⟨_, G, fun z => by rw [if_pos c]; rfl⟩
  · rw [if_neg c] at G
    obtain ⟨as, las, hD, _⟩ := G.ex
    exact ⟨_, hD, fun z => by rw [if_neg c, ik_in, grK_keys las]⟩
theorem GphO.get {K : PySem.W.Frag} {H : Hp} {D : Addr} {F : Int → List Int} {M : Nat} {s : Int} (G : GphO K H D F M s) {z : Int} (h : z ∈ keyO M F s) : ∃ kvs a, H D = some (.dK kvs) ∧ valV kvs (.inl z) = some (.ref a) ∧ H a = some (.lst (folV M (F z))) := by
  unfold GphO at G
  unfold keyO at h
  by_cases c : M < s.natAbs
  · rw [if_pos c] at h; cases h
  · rw [if_neg c] at G h
    exact G.get (bfs_nodup _) h
theorem GphO.same {K : PySem.W.Frag} {H H' : Hp} {D : Addr} {F : Int → List Int} {M : Nat} {s : Int} (G : GphO K H D F M s) (S : Same H H') : GphO K H' D F M s := by
  unfold GphO at G ⊢
  split
  · rename_i c; rw [if_pos c] at G; exact S _ _ G
  · rename_i c; rw [if_neg c] at G; exact G.same S
theorem keyO_few {M : Nat} {F : Int → List Int} {s : Int} {ks : List Int} (nd : ks.Nodup) (h : ∀ z ∈ ks, z ∈ keyO M F s) : ks.length ≤ 2 * M + 1 :=
  few_ints nd fun z hz => by
    have := h z hz
    unfold keyO at this
    split at this
    · cases this
    · obtain ⟨e, he, rfl⟩ := List.mem_map.mp this
      exact bfs_within (by omega) _ e he
theorem keyO_next {M : Nat} {F : Int → List Int} {s x y : Int} (hx : x ∈ keyO M F s) (hy : y ∈ F x) (hM : y.natAbs ≤ M) : y ∈ keyO M F s := by
  unfold keyO at hx ⊢
  split at hx
  · cases hx
  · rename_i c
    rw [if_neg c]
    obtain ⟨e, he, rfl⟩ := List.mem_map.mp hx
    have R := bfs_rooted (M := M) (F := F) (s := s) (2 * M + 1)
    have W := R.walk (bfs_within (by omega) (2 * M + 1)) _ e he rfl
    obtain ⟨v, hv, ev, _⟩ := bfs_least (by omega) (W.step hy hM)
    exact List.mem_map.mpr ⟨v, hv, ev⟩
theorem ends_keyO {M : Nat} {F : Int → List Int} {s z : Int} {n : Nat} (h : z ∈ endsW M F s n) : z ∈ keyO M F s := by
  unfold keyO
  by_cases c : M < s.natAbs
  · rw [ends_none c] at h; cases h
  · rw [if_neg c]; exact ends_keys (by omega) h
theorem Cnt.congr {H : Hp} {L : Addr} {KE ks : List Int} {g g' : Int → Nat} (h : Cnt H L KE g ks) (e : ∀ z, g z = g' z) : Cnt H L KE g' ks := by
  have : g = g' := funext e
  rw [← this]
  exact h
theorem Cnt.same {H H' : Hp} {L : Addr} {KE ks : List Int} {g : Int → Nat} (h : Cnt H L KE g ks) (e : H' L = H L) : Cnt H' L KE g ks := ⟨e.trans h.at_, h.nd, h.sub, h.zero⟩
def sp_counted (K : PySem.W.Frag) : Sp := fun vs H Q _ => ∃ (D : Addr) (F : Int → List Int) (M n : Nat) (s : Int), vs = [.ref D, .int s, .int (n : Int)] ∧ GphO K H D F M s ∧ M ≤ 1000 ∧ n ≤ 60 ∧ (∀ x, (F x).length ≤ 1000) ∧
  ∀ (R : Addr) (H' : Hp) (ks : List Int), Same H H' → H R = none → Cnt H' R (keyO M F s) (fun z => (endsW M F s n).count z) ks → Q (.ref R) H'
theorem ok_counted (F : Fun K "counted" "counted" s_counted f fd) (T : Txt K mg t1 t2 t3) : FnOk P w K mg base CX0 1 f fd ["graph", "start", "length"] (sp_counted K) := by
  refine F.ok sc_counted (fun vs H Q E h => ?_) (fun cdv A outer s0 H vs Q E hr h => ?_)
  · obtain ⟨D, F, M, n, s, rfl, _⟩ := h
    rfl
  · obtain ⟨D, F, M, n, s, rfl, G, hM, hn, hF, k⟩ := h
    refine ⟨_, (pss_cons (ps_set (i := 3) sc_counted.nd rfl (Or.inl rfl) (pe_ifExp (pt_cmpR (op_inI (un1 hr)) (pv 1) (pv 0) (by rfl)) (pe_disp (pps_cons (pv 1) pe_int pps_nil) (by rfl) (by rfl) (fun z => by cases z) (by decide)) pe_dnewK))
      (pss_cons (ps_for PassesOwn.never rfl (pi_range1 rfl T.f_range (pa_cons (pv 2) pa_nil)) (pg_name (i := 4) sc_counted.nd rfl (Or.inl rfl))
      (pss_cons (ps_set (i := 5) sc_counted.nd rfl (Or.inl rfl) pe_dnewK)
      (pss_cons (ps_lock (ps_for PassesOwn.never rfl (pi_items (pv 3)) (pg_tup rfl (pgs_cons (pg_name (i := 6) sc_counted.nd rfl (Or.inl rfl)) (pgs_cons (pg_name (i := 7) sc_counted.nd rfl (Or.inl rfl)) pgs_nil)))
      (pss_one (ps_for PassesOwn.never rfl (pi_list (pe_ix (ix_dI (un1 hr)) (pv 0) (pv 6) (fun _ _ => rfl))) (pg_name (i := 8) sc_counted.nd rfl (Or.inl rfl))
      (pss_one (ps_if (pt_cmpR op_notN (pv 8) pe_non (nomark _)) (pss_one (ps_asg (pe_op op_add (pe_dget2 (un1 hr) (pv 5) (pv 8) pe_int ⟨rfl, rfl, rfl, rfl⟩) (pv 7)) (pg_sub (pv 5) (pv 8) (set_dI (un1 hr))))) pss_nil))))))
      (pss_one (ps_set (i := 3) sc_counted.nd rfl (Or.inl rfl) (pv 5))))))
      (pss_one (ps_ret (pv 3))))), ?_⟩
    obtain ⟨kvs, hD, isin⟩ := G.isin
    obtain ⟨KE, hKE⟩ : ∃ KE, keyO M F s = KE := ⟨_, rfl⟩
    refine ⟨_, rfl, _, rfl, D, kvs, s, rfl, rfl, hD, _, rfl, ?_⟩
    rw [show (if false = true then _ else (valV kvs (.inl s)).isSome) = (valV kvs (.inl s)).isSome from rfl, isin, hKE]
    refine told_ifT (fun v H' => ∃ Rr ks, v = .ref Rr ∧ Same H H' ∧ H Rr = none ∧ Cnt H' Rr KE (fun z => (endsW M F s 0).count z) ks) (fun c kk => ?_) (fun c kk => ?_) ?_
    · have c := of_decide_eq_true c
      have cM : s.natAbs ≤ M := by
        rw [← hKE] at c
        unfold keyO at c
        split at c
        · cases c
        · omega
      refine fun p np => ⟨_, rfl, upd_same, [(.inl s, V.int 1)], rfl, by show 1 ≤ 15; decide, ?_⟩
      rw [upd_upd]
      refine kk _ _ ⟨p, [s], rfl, same_new np, np, ?_⟩
      have e0 : endsW M F s 0 = [s] := by show keepIn M [s] = [s]; unfold keepIn; simp [cM]
      refine ⟨?_, by simp, fun z hz => by rw [List.mem_singleton.mp hz]; exact c, fun z hz => ?_⟩
      · rw [upd_same]
        show some (HO.dK (mergeK [] [(.inl s, V.int 1)])) = some (HO.dK (IK [(s, V.int ((endsW M F s 0).count s : Nat))]))
        rw [e0, List.count_singleton_self]
        rfl
      · rw [e0]
        exact List.count_eq_zero.mpr hz
    · have c : s ∉ KE := fun h => by rw [decide_eq_true h] at c; cases c
      have cM : M < s.natAbs := Nat.lt_of_not_le fun h => c (by
        rw [← hKE]
        unfold keyO
        rw [if_neg (by omega)]
        exact List.mem_map.mpr ⟨_, bfs_first, rfl⟩)
      refine fun p np => kk _ _ ⟨p, [], rfl, same_new np, np, upd_same, List.nodup_nil, fun z hz => (nomatch hz), fun z _ => ?_⟩
      show (endsW M F s 0).count z = 0
      rw [ends_none cM]
      rfl
    rintro v H1 ⟨R1, ks1, rfl, s1, nR1, C1⟩
    refine ⟨_, rfl, (n : Int), rfl, by omega, by omega, ?_⟩
    rw [Int.toNat_natCast]
    refine for_range (lo := 0) (n := n) (fun i σ H' => ∃ Rr ks o4 o5 o6 o7 o8, σ = [some (.ref D), some (.int s), some (.int (n : Int)), some (.ref Rr), o4, o5, o6, o7, o8] ∧ Same H H' ∧ H Rr = none ∧ Cnt H' Rr KE (fun z => (endsW M F s i).count z) ks) ⟨R1, ks1, _, _, _, _, _, rfl, s1, nR1, C1⟩ ?_ ?_
    · rintro i σ H2 hi ⟨Rr, ks, o4, o5, o6, o7, o8, rfl, s2, nR, C⟩
      obtain ⟨l, el⟩ : ∃ l, endsW M F s i = l := ⟨_, rfl⟩
      rw [el] at C
      refine fun L nL => ?_
      have y1 := same_new (o := .dK []) nL
      have LR : L ≠ Rr := fun c => by rw [c, C.at_] at nL; cases nL
      have nLH := none_back s2 nL
      have CL : Cnt (upd H2 L (.dK [])) L KE (sumC M F l (ks.take 0)) [] := ⟨upd_same, List.nodup_nil, fun z hz => (nomatch hz), fun z _ => rfl⟩
      have C : Cnt (upd H2 L (.dK [])) Rr KE (fun z => l.count z) ks := C.same (upd_ne LR.symm)
      have s3 := s2.trans y1
      generalize upd H2 L (.dK []) = J at C CL s3 ⊢
      refine ⟨Rr, _, C.at_, trivial, fun od => ?_⟩
      obtain ⟨kv, ekv⟩ : ∃ kv, IK (cntL ks fun z => l.count z) = kv := ⟨_, rfl⟩
      have lkv : kv.length = ks.length := by rw [← ekv, ik_len, cntL_len]
      have hJR := C.at_
      rw [ekv] at hJR ⊢
      obtain ⟨Z, eZ⟩ : ∃ Z, upd J Rr (.frz od (.dK kv)) = Z := ⟨_, rfl⟩
      have hZR : Z Rr = some (.frz od (.dK kv)) := by rw [← eZ]; exact upd_same
      have CZ : Cnt Z L KE (sumC M F l (ks.take 0)) [] := CL.same (by rw [← eZ, upd_ne LR])
      have sZ : ∀ {H' : Hp}, (∀ b o', b ≠ L → Z b = some o' → H' b = some o') → Same H H' := fun kp b o h => by
        refine kp b o (ne_of_none h nLH) ?_
        rw [← eZ, upd_ne (ne_of_none h nR)]
        exact s3 _ _ h
      rw [eZ]
      refine ⟨_, rfl, Rr, od, kv, rfl, hZR, ?_⟩
      refine for_it walk_items (fun p σ H' => (∃ o6 o7 o8, σ = [some (.ref D), some (.int s), some (.int (n : Int)), some (.ref Rr), some (.int (0 + (i : Int))), some (.ref L), o6, o7, o8]) ∧ (∀ b o', b ≠ L → Z b = some o' → H' b = some o') ∧ ∃ ks2, Cnt H' L KE (sumC M F l (ks.take p)) ks2) ⟨⟨_, _, _, rfl⟩, fun b o' _ h => h, _, CZ⟩ (fun p σ H' _ h => h.2.1 _ _ LR.symm hZR) ?_ ?_
      · rintro p u σ H3 H4 hp ⟨⟨o6, o7, o8, rfl⟩, kp, ks2, C2⟩ ⟨TT, a, b, rfl, nT, rfl, h1, h2⟩
        rw [lkv] at hp
        obtain ⟨x, hx⟩ : ∃ x, ks[p]? = some x := ⟨_, List.getElem?_eq_getElem hp⟩
        have hkv : kv[p]? = some (.inl x, V.int (l.count x : Nat)) := by
          rw [← ekv, IK, cntL, List.map_map, List.getElem?_map, hx]
          rfl
        have h1 : (kv[p]?.map fun kv => kV kv.1) = some a := h1
        have h2 : (kv[p]?.map Prod.snd) = some b := h2
        rw [hkv] at h1 h2
        have h1 : V.int x = a := Option.some.inj h1
        have h2 : V.int (l.count x : Nat) = b := Option.some.inj h2
        subst h1 h2
        refine ⟨TT, _, rfl, .inl (.inl upd_same), rfl, _, _, rfl, _, _, rfl, rfl, ?_⟩
        have t1 := same_new (o := .tup [V.int x, V.int (l.count x : Nat)]) nT
        have kp := fun b o' hb h => t1 b o' (kp b o' hb h)
        have TL : TT ≠ L := fun c => by rw [c, C2.at_] at nT; cases nT
        have C2 := C2.same (H' := upd H3 TT (.tup [V.int x, V.int (l.count x : Nat)])) (upd_ne TL.symm)
        generalize upd H3 TT (.tup [V.int x, V.int (l.count x : Nat)]) = H4 at kp C2 ⊢
        clear t1 nT TL
        have xKE : x ∈ KE := C.sub x (List.mem_of_getElem? hx)
        have S4 := sZ kp
        obtain ⟨kvD, ad', hD4, hv4, ha4⟩ := (G.same S4).get (by rw [hKE]; exact xKE)
        -- the followers' list stays
        have haH : H ad' = some (.lst (folV M (F x))) := by
          obtain ⟨kvD', ad2, e1, e2, e3⟩ := G.get (z := x) (by rw [hKE]; exact xKE)
          have := S4 _ _ e1
          rw [hD4] at this
          cases this
          rw [hv4] at e2
          cases e2
          exact e3
        refine ⟨_, rfl, _, rfl, D, kvD, x, .ref ad', rfl, rfl, hD4, hv4, ad', rfl, ⟨_, .inl (.inl ha4)⟩, for_list (K := K) (a := ad') (xs := folV M (F x)) (fun j σ H' => (∃ o8, σ = [some (.ref D), some (.int s), some (.int (n : Int)), some (.ref Rr), some (.int (0 + (i : Int))), some (.ref L), some (.int x), some (.int (l.count x : Nat)), o8]) ∧ (∀ b o', b ≠ L → Z b = some o' → H' b = some o') ∧ ∃ ks2, Cnt H' L KE (fun z => sumC M F l (ks.take p) z + l.count x * (keepIn M ((F x).take j)).count z) ks2)
          ⟨⟨_, rfl⟩, kp, ks2, C2.congr fun z => by simp [keepIn]⟩ (fun j σ H' _ h => .inl (.inl (sZ h.2.1 _ _ haH))) ?_ ?_⟩
        · rintro j u σ H5 hu ⟨⟨o8, rfl⟩, kp, ks3, C3⟩
          obtain ⟨y, hy, rfl⟩ := map_get hu
          have tk : (F x).take (j + 1) = (F x).take j ++ [y] := take_more hy
          by_cases yM : y.natAbs ≤ M
          · rw [if_pos yM]
            have kt : keepIn M ((F x).take (j + 1)) = keepIn M ((F x).take j) ++ [y] := by
              rw [tk]; unfold keepIn; rw [List.filter_append]; simp [yM]
            have yKE : y ∈ KE := by
              rw [← hKE] at xKE ⊢
              exact keyO_next xKE (List.mem_of_getElem? hy) yM
            have few := keyO_few (M := M) (F := F) (s := s) C3.nd (fun z hz => by rw [hKE]; exact C3.sub z hz)
            obtain ⟨ks4, C4⟩ := C3.put (c := l.count x) yKE
            refine ⟨_, rfl, rfl, _, rfl, iteT ⟨_, rfl, L, rfl, .inl ⟨_, .inl C3.at_⟩, _, rfl, _, DGet.k (k := Sum.inl y) C3.at_, ?_⟩⟩
            rw [cnt_get C3.nd C3.zero y]
            refine ⟨_, rfl, _, _, rfl, rfl, ?_⟩
            refine ⟨_, rfl, _, rfl, L, _, y, rfl, rfl, C3.at_, by rw [ik_len, cntL_len, sizeLine_eq]; omega, ⟨_, rfl⟩, fun b o' h1 h => ?_, ks4, ?_⟩
            · rw [upd_ne h1]; exact kp b o' h1 h
            · refine C4.congr fun z => ?_
              rw [kt, List.count_append]
              by_cases e : z = y
              · rw [if_pos e, e, List.count_singleton_self, Nat.mul_add, Nat.mul_one]; omega
              · rw [if_neg e, List.count_eq_zero.mpr (fun h => e (List.mem_singleton.mp h)), Nat.add_zero]
          · rw [if_neg yM]
            have kt : keepIn M ((F x).take (j + 1)) = keepIn M ((F x).take j) := by
              rw [tk]; unfold keepIn; rw [List.filter_append]; simp [yM]
            refine ⟨_, rfl, rfl, _, rfl, iteF ⟨⟨_, rfl⟩, kp, ks3, ?_⟩⟩
            exact C3.congr fun z => by rw [kt]
        · rintro σ H5 ⟨⟨o8, rfl⟩, kp, ks3, C3⟩
          refine ⟨⟨_, _, _, rfl⟩, kp, ks3, C3.congr fun z => ?_⟩
          rw [take_more hx, sumC_snoc, show (folV M (F x)).length = (F x).length from List.length_map _, List.take_length]
      · rintro σ H3 ⟨⟨o6, o7, o8, rfl⟩, kp, ks2, C2⟩
        refine ⟨kp _ _ LR.symm hZR, ?_⟩
        have LH : (upd H3 Rr (.dK kv)) L = H3 L := upd_ne LR
        have S5 : Same H (upd H3 Rr (.dK kv)) := fun b o h => by
          rw [upd_ne (ne_of_none h nR)]
          exact sZ kp b o h
        have C5 := C2.same LH
        rw [lkv, List.take_length] at C5
        refine ⟨_, rfl, L, ks2, _, _, _, _, _, rfl, S5, nLH, C5.congr fun z => ?_⟩
        show sumC M F l ks z = (endsW M F s (i + 1)).count z
        have sub : ∀ x ∈ l, x ∈ ks := fun x hx => Classical.byContradiction fun c => by
          have := C.zero x c
          exact absurd hx (List.count_eq_zero.mp this)
        have := count_by (fun x => keepIn M (F x)) z C.nd l sub
        unfold sumC
        rw [← this, ← el]
        rfl
    · rintro σ H2 ⟨Rr, ks, o4, o5, o6, o7, o8, rfl, s2, nR, C⟩
      rw [← hKE] at C
      exact ⟨_, rfl, k Rr H2 ks s2 nR C⟩
end
end My

set_option Elab.async false
set_option linter.all false
set_option maxRecDepth 100000
set_option maxHeartbeats 8000000
set_option exponentiation.threshold 20000
namespace My
open PySem PySem.Spec PyProof.Rows L2 LamX
section
variable {P : Program} {w : World} {K : PySem.W.Frag} {mg : Str → Option Value} {base : Heap} {t1 t2 t3 : Tok} {f : Addr} {fd : FuncData} {ad : Ads}
/-- what need_goal says, in its order -/
def GoalX (K : PySem.W.Frag) (ad : Ads) (N : List Addr) (H : Hp) (d1 d2 : PyData) (Q : VK) (E : XK) (ok : Prop) : Prop :=
  (∀ e, intOut d1 = some e → ToldX K ad N H (.er e d1) Q E) ∧ (intOut d1 = none → (∀ e, intOut d2 = some e → ToldX K ad N H (.er e d2) Q E) ∧ (intOut d2 = none → ok))
def sp_need_goal2 (ad : Ads) (K : PySem.W.Frag) : Sp := fun vs H Q E => ∃ (N : List Addr) (v u1 u2 : V) (d1 d2 : PyData), vs = [v, u1, u2] ∧ Live N H ∧ Dp K (cut N H) u1 d1 ∧ Dp K (cut N H) u2 d2 ∧
  ((∃ d0 e, Dp K (cut N H) v d0 ∧ rowOut d0 = .er .row e ∧ ToldX K ad N H (.er .row e) Q E) ∨ ∃ ss t, Dp K (cut N H) v (rowD ss) ∧ Cho ss t ∧ GoalX K ad N H d1 d2 Q E (∀ H', Same H H' → Q .non H'))
theorem ok_need_goal2 (F : Fun K "need_goal" "need_goal" s_need_goal f fd) (T : Txt K mg t1 t2 t3) (C_need_choices : Ce P w K mg base (L2.CX P w) 6 "need_choices" ["steps"] (sp_need_choices ad K)) (C_need_integer_number2 : Ce P w K mg base (L2.CX P w) 5 "need_integer_number" ["value"] (sp_need_integer_number2 ad K)) :
    FnOk P w K mg base (L2.CX P w) 7 f fd ["steps", "start", "goal"] (sp_need_goal2 ad K) := by
  refine F.okX sc_need_goal (fun vs H Q E h => ?_) (fun cdv A outer s H vs Q E hr h => ?_)
  · obtain ⟨N, v, u1, u2, d1, d2, rfl, _⟩ := h
    rfl
  · obtain ⟨N, v, u1, u2, d1, d2, rfl, l, h1, h2, k⟩ := h
    refine ⟨_, (pss_cons (ps_expr (pe_ce C_need_choices (hr.mono (by decide)) passX (pa_cons (pv 0) pa_nil)))
      (pss_cons (ps_expr (pe_ce C_need_integer_number2 (hr.mono (by decide)) passX (pa_cons (pv 1) pa_nil)))
      (pss_one (ps_expr (pe_ce C_need_integer_number2 (hr.mono (by decide)) passX (pa_cons (pv 2) pa_nil)))))), ?_⟩
    rcases k with ⟨d0, e, hd, he, k⟩ | ⟨ss, t, hd, C, k1, k2⟩
    · exact ⟨_, rfl, N, v, d0, rfl, l, hd, .inl ⟨e, he, k⟩⟩
    obtain ⟨gr, gf⟩ := C.good
    refine ⟨_, rfl, N, v, _, rfl, l, hd, .inr ⟨ss, rfl, gr, .inr ⟨gf, fun H1 s1 => ?_⟩⟩⟩
    refine ⟨_, rfl, N, u1, d1, rfl, l.same s1, dp_ex h1 s1, fun e1 H2 s2 => ?_, fun e he => (k1 e he).later s1⟩
    obtain ⟨k3, k4⟩ := k2 e1
    have s3 := s1.trans s2
    exact ⟨_, rfl, N, u2, d2, rfl, l.same s3, dp_ex h2 s3, fun e2 H3 s4 => k4 e2 _ (s3.trans s4), fun e he => (k3 e he).later s3⟩
def sp_most_to2 (ad : Ads) (K : PySem.W.Frag) : Sp := fun vs H Q E => ∃ (N : List Addr) (v u : V) (ss : List (List (Int × Int))) (t b : Nat) (y : Int), vs = [v, u] ∧ Live N H ∧ Dp K (cut N H) v (rowD ss) ∧ Cho ss t ∧ Dp K (cut N H) u (nD (y, 1)) ∧ IsMax ss b ∧ b ≤ 1000000 ∧ y.natAbs ≤ 1000000 ∧
  (2 * Nat.max b y.natAbs + 1 ≤ 2000 → ∀ H', Same H H' → Q (.int (Nat.max b y.natAbs : Nat)) H') ∧ (2000 < 2 * Nat.max b y.natAbs + 1 → ToldX K ad N H (.er .grt (.int 2000)) Q E)
theorem ok_most_to2 (F : Fun K "most_to" "most_to" s_most_to f fd) (T : Txt K mg t1 t2 t3) (C_bound_of_all : Ce P w K mg base CX0 3 "bound_of_all" ["steps"] (sp_bound_of_all K)) (C_refuse_many2 : Ce P w K mg base (L2.CX P w) 4 "refuse_many" ["bound"] (sp_refuse_many2 ad K)) :
    FnOk P w K mg base (L2.CX P w) 5 f fd ["steps", "goal"] (sp_most_to2 ad K) := by
  refine F.okX sc_most_to (fun vs H Q E h => ?_) (fun cdv A outer s H vs Q E hr h => ?_)
  · obtain ⟨N, v, u, ss, t, b, y, rfl, _⟩ := h
    rfl
  · obtain ⟨N, v, u, ss, t, b, y, rfl, l, hd, C, h2, hB, b9, y9, k1, k2⟩ := h
    refine ⟨_, (pss_cons (ps_set (i := 2) sc_most_to.nd rfl (Or.inl rfl) (pe_callB (call_max2 rfl) (by rfl) T.f_max (by decide +kernel) (pa_cons (pe_ce C_bound_of_all (hr.mono (by decide)) pass0 (pa_cons (pv 0) pa_nil)) (pa_cons (pe_callB call_abs (by rfl) T.f_abs (by decide +kernel) (pa_cons (pe_ix ix_tup (pv 1) pe_int (fun _ _ => rfl)) pa_nil)) pa_nil))))
      (pss_cons (ps_expr (pe_ce C_refuse_many2 (hr.mono (by decide)) passX (pa_cons (pv 2) pa_nil)))
      (pss_one (ps_ret (pv 2))))), ?_⟩
    obtain ⟨q, rfl, hq⟩ := dp_num h2
    have ne : ss ≠ [] := fun e => by have := C.ne; rw [e] at this; cases this
    have le9 : ss.length ≤ 9 := by have := C.le; omega
    refine ⟨_, rfl, N, v, ss, t, rfl, l, hd, ne, le9, C.ws, C.t3, fun B2 H1 s1 hB2 => ?_⟩
    rw [hB2.same hB]
    refine ⟨_, rfl, q, _, 0, _, rfl, rfl, seq_same s1 (seq_un hq), rfl, _, rfl, _, _, rfl, ?_⟩
    have em : (if (if y < 0 then -y else y) > (b : Int) then (if y < 0 then -y else y) else (b : Int)) = ((Nat.max b y.natAbs : Nat) : Int) := by
      rw [abs_if]
      exact max_int _ _
    rw [em]
    have le : Nat.max b y.natAbs ≤ 1000000 := Nat.max_le.mpr ⟨b9, y9⟩
    exact ⟨_, rfl, N, _, rfl, l.same s1, le, fun h => ⟨_, rfl, k1 h _ s1⟩, fun h => (k2 h).later s1⟩
def lenN : PyData → Option Nat
  | .int i => if 0 ≤ i ∧ i ≤ 60 then some i.toNat else none
  | _ => none
theorem intOut_ok {d : PyData} (h : intOut d = none) : ∃ x : Int, d = .tuple [.int x, .int 1] ∧ isNum d = true := by
  unfold intOut at h
  split at h
  · rename_i a b
    split at h
    · rename_i c
      split at h
      · rename_i e; subst e; exact ⟨a, rfl, c⟩
      · cases h
    · cases h
  · cases h
theorem isNum_le {x : Int} (h : isNum (.tuple [.int x, .int 1]) = true) : x.natAbs ≤ 10 ^ 60 := by
  have : okNum x 1 = true := h
  unfold okNum at this
  simp only [Bool.and_eq_true, decide_eq_true_eq] at this
  omega
def CountX (K : PySem.W.Frag) (ad : Ads) (N : List Addr) (H : Hp) (ss : List (List (Int × Int))) (b : Nat) (d1 d2 d3 : PyData) (Q : VK) (E : XK) : Prop :=
  ∀ x y : Int, d1 = .tuple [.int x, .int 1] → d2 = .tuple [.int y, .int 1] → (lenN d3 = none → ToldX K ad N H (.er .par d3) Q E) ∧ ∀ n, lenN d3 = some n → y.natAbs ≤ 1000000 ∧ (2000 < 2 * Nat.max b y.natAbs + 1 → ToldX K ad N H (.er .grt (.int 2000)) Q E) ∧
    (2 * Nat.max b y.natAbs + 1 ≤ 2000 → ∀ H', Same H H' → Q (.int ((endsW (Nat.max b y.natAbs) (fol ss) x n).count y : Nat)) H')
def sp_count_words (ad : Ads) (K : PySem.W.Frag) : Sp := fun vs H Q E => ∃ (N : List Addr) (v u1 u2 u3 : V) (d1 d2 d3 : PyData), vs = [v, u1, u2, u3] ∧ Live N H ∧ Dp K (cut N H) u1 d1 ∧ Dp K (cut N H) u2 d2 ∧ Dp K (cut N H) u3 d3 ∧
  ((∃ d0 e, Dp K (cut N H) v d0 ∧ rowOut d0 = .er .row e ∧ ToldX K ad N H (.er .row e) Q E) ∨ ∃ ss t b, Dp K (cut N H) v (rowD ss) ∧ Cho ss t ∧ IsMax ss b ∧ b ≤ 1000000 ∧ GoalX K ad N H d1 d2 Q E (CountX K ad N H ss b d1 d2 d3 Q E))
theorem ok_count_words (F : Fun K "count_words" "count_words" s_count_words f fd) (T : Txt K mg t1 t2 t3) (XS : Exs P w K mg base ad) (C_is_integer : Ce P w K mg base CX0 1 "is_integer" ["value"] (sp_is_integer K)) (C_need_goal2 : Ce P w K mg base (L2.CX P w) 7 "need_goal" ["steps", "start", "goal"] (sp_need_goal2 ad K)) (C_most_to2 : Ce P w K mg base (L2.CX P w) 5 "most_to" ["steps", "goal"] (sp_most_to2 ad K))
    (C_explored : Ce P w K mg base CX0 3 "explored" ["steps", "start", "most"] (sp_explored K)) (C_counted : Ce P w K mg base CX0 1 "counted" ["graph", "start", "length"] (sp_counted K)) :
    FnOk P w K mg base (L2.CX P w) 8 f fd ["steps", "start", "goal", "length"] (sp_count_words ad K) := by
  refine F.okX sc_count_words (fun vs H Q E h => ?_) (fun cdv A outer s H vs Q E hr h => ?_)
  · obtain ⟨N, v, u1, u2, u3, d1, d2, d3, rfl, _⟩ := h
    rfl
  · obtain ⟨N, v, u1, u2, u3, d1, d2, d3, rfl, l, h1, h2, h3, k⟩ := h
    refine ⟨_, (pss_cons (ps_expr (pe_ce C_need_goal2 (hr.mono (by decide)) passX (pa_cons (pv 0) (pa_cons (pv 1) (pa_cons (pv 2) pa_nil)))))
      (pss_cons (ps_if (PW.pt (pw_or (pt_not (pt_val (pe_ce C_is_integer (hr.mono (by decide)) pass0 (pa_cons (pv 3) pa_nil)))) (pw_or (pt_cmpR op_lt (pv 3) pe_int (nomark _)) (pw_or1 (pt_cmpR op_gt (pv 3) (pe_glob (v := .int 60) rfl T.g_MOST_LENGTH.choose_spec ⟨_, rfl⟩) (nomark _)))))) (pss_one (ps_raise rfl (takes_of rfl rfl rfl rfl) (pmk_ec XS.x_BadParameter hr (pa_cons (pv 3) pa_nil)))) pss_nil)
      (pss_cons (ps_set (i := 4) sc_count_words.nd rfl (Or.inl rfl) (pe_ce C_explored (hr.mono (by decide)) pass0 (pa_cons (pv 0) (pa_cons (pe_ix ix_tup (pv 1) pe_int (fun _ _ => rfl)) (pa_cons (pe_ce C_most_to2 (hr.mono (by decide)) passX (pa_cons (pv 0) (pa_cons (pv 2) pa_nil))) pa_nil)))))
      (pss_one (ps_ret (pe_dget2 (un1 hr) (pe_ce C_counted (hr.mono (by decide)) pass0 (pa_cons (pv 4) (pa_cons (pe_ix ix_tup (pv 1) pe_int (fun _ _ => rfl)) (pa_cons (pv 3) pa_nil)))) (pe_ix ix_tup (pv 2) pe_int (fun _ _ => rfl)) pe_int ⟨rfl, rfl, rfl, rfl⟩)))))), ?_⟩
    rcases k with ⟨d0, e, hd, he, k⟩ | ⟨ss, t, b, hd, C, hB, b6, k⟩
    · exact ⟨_, rfl, _, rfl, _, rfl, N, v, u1, u2, d1, d2, rfl, l, h1, h2, .inl ⟨d0, e, hd, he, k⟩⟩
    refine ⟨_, rfl, _, rfl, _, rfl, N, v, u1, u2, d1, d2, rfl, l, h1, h2, .inr ⟨ss, t, hd, C, k.1, fun e1 => ⟨(k.2 e1).1, fun e2 H1 s1 => ?_⟩⟩⟩
    have k := (k.2 e1).2 e2
    obtain ⟨x, rfl, nx⟩ := intOut_ok e1
    obtain ⟨y, rfl, ny⟩ := intOut_ok e2
    obtain ⟨k1, k2⟩ := k x y rfl rfl
    have h1 := dp_ex h1 s1
    have h2 := dp_ex h2 s1
    have h3 := dp_ex h3 s1
    have hd := dp_ex hd s1
    have l1 := l.same s1
    refine ⟨_, rfl, u3, d3, rfl, h3.un, _, rfl, ?_⟩
    have bad : lenN d3 = none → _ := fun e => mk_fill XS.x_BadParameter fun q hq => told_er (k1 e) l s1 hq h3
    cases e3 : isI d3 with
    | false =>
      have : lenN d3 = none := by cases d3 <;> first | rfl | cases e3
      exact iteT (iteT ⟨_, rfl, bad this⟩)
    | true =>
    obtain ⟨i, rfl⟩ : ∃ i, d3 = .int i := by cases d3 <;> first | exact ⟨_, rfl⟩ | cases e3
    cases h3
    have el : lenN (.int i) = if 0 ≤ i ∧ i ≤ 60 then some i.toNat else none := rfl
    refine iteF ⟨_, rfl, _, _, rfl, rfl, _, rfl, ?_⟩
    by_cases c1 : i < 0
    · rw [decide_eq_true c1]
      exact iteT (iteT ⟨_, rfl, bad (by rw [el, if_neg (by omega)])⟩)
    rw [decide_eq_false c1]
    refine iteF ⟨_, rfl, _, _, rfl, rfl, _, rfl, ?_⟩
    by_cases c2 : 60 < i
    · rw [decide_eq_true c2]
      exact iteT ⟨_, rfl, bad (by rw [el, if_neg (by omega)])⟩
    rw [decide_eq_false c2]
    refine iteF ?_
    obtain ⟨n, rfl⟩ : ∃ n : Nat, i = (n : Int) := ⟨i.toNat, by omega⟩
    obtain ⟨y6, kg, kc⟩ := k2 n (by rw [el, if_pos (by omega), Int.toNat_natCast])
    obtain ⟨q1, rfl, hq1⟩ := dp_num (q := (x, 1)) h1
    obtain ⟨q2, rfl, hq2⟩ := dp_num (q := (y, 1)) h2
    refine ⟨_, rfl, _, rfl, q1, _, 0, _, rfl, rfl, seq_un hq1, rfl, _, rfl, _, rfl, N, v, _, ss, t, b, y, rfl, l1, hd, C, h2, hB, b6, y6, fun hM H2 s2 => ?_, fun h => (kg h).later s1⟩
    have kc := kc hM
    have M9 : Nat.max b y.natAbs ≤ 1000 := by omega
    generalize Nat.max b y.natAbs = M at kc M9 hM ⊢
    refine ⟨N, v, ss, t, M, x, rfl, l1.same s2, dp_ex hd s2, C, M9, fun D H3 s3 nDD hG => ?_⟩
    have s23 := s2.trans s3
    have hq1 := seq_same s23 (seq_un hq1)
    have hq2 := seq_same s23 (seq_un hq2)
    refine ⟨_, rfl, _, rfl, q1, _, 0, _, rfl, rfl, hq1, rfl, _, rfl, D, fol ss, M, n, x, rfl, hG, M9, by omega, fun z => by unfold fol; rw [List.length_map]; have := C.le; omega, fun R H4 ks s4 nR C4 => ?_⟩
    refine ⟨R, rfl, .inl ⟨_, .inl C4.at_⟩, _, rfl, q2, _, 0, _, rfl, rfl, seq_same s4 hq2, rfl, _, DGet.k (k := Sum.inl y) C4.at_, ?_⟩
    rw [cnt_get C4.nd C4.zero y]
    exact kc _ ((s1.trans s23).trans s4)
end
end My

set_option Elab.async false
set_option linter.all false
set_option maxRecDepth 100000
set_option maxHeartbeats 8000000
set_option exponentiation.threshold 20000
namespace My
open PySem PySem.Spec PyProof.Rows L2 LamX
theorem far_out {ss : List (List (Int × Int))} {t B : Nat} (hw : ∀ s ∈ ss, WS s t) (hB : IsMax ss B) : ∀ x : Int, B < x.natAbs → ∀ y ∈ fol ss x, B < y.natAbs := fun x hx y hy => by
  obtain ⟨s, hs, rfl⟩ := List.mem_map.mp hy
  obtain ⟨b, hb, le⟩ := hB.ge.2 s hs
  have := (hw s hs).grow hb.one hb.ok (x := x) (by omega)
  exact Nat.lt_trans hx this
theorem count_all {ss : List (List (Int × Int))} {t B n : Nat} {x y : Int} (hw : ∀ s ∈ ss, WS s t) (hB : IsMax ss B) (hy : y.natAbs ≤ B) : (endsW (Nat.max B y.natAbs) (fol ss) x n).count y = (endsA (fol ss) x n).count y := by
  have e : Nat.max B y.natAbs = B := Nat.max_eq_left hy
  rw [e, ← ends_same (far_out hw hB), count_keepIn hy]
theorem intOut_int {x : Int} (h : x.natAbs ≤ 10 ^ 60) : intOut (.tuple [.int x, .int 1]) = none := by
  show (if isNum (.tuple [.int x, .int 1]) = true then (if (1 : Int) = 1 then none else some Er.par) else some Er.num) = none
  have e : isNum (.tuple [.int x, .int 1]) = true := isNum_1 h
  rw [if_pos e, if_pos rfl]
def bitsE : Nat → Nat
  | 0 => 7
  | k + 1 => 2 + (bitsE k + 1) * 9
theorem ends_bits {ss : List (List (Int × Int))} (hw : ∀ s ∈ ss, WS s 2) {x : Int} (hx : x.natAbs < 2 ^ 7) : ∀ (n : Nat) (z : Int), z ∈ endsA (fol ss) x n → z.natAbs < 2 ^ bitsE n
  | 0, z, h => by rw [List.mem_singleton.mp h]; exact hx
  | n + 1, z, h => by
    obtain ⟨y, hy, hz⟩ := List.mem_flatMap.mp h
    obtain ⟨s, hs, rfl⟩ := List.mem_map.mp hz
    have W := hw s hs
    refine Nat.lt_of_lt_of_le (hornZ_bd (t := 2) (ns := zsS s) (ends_bits hw hx n y hy) fun c hc => ?_) (Nat.pow_le_pow_right (by decide) ?_)
    · obtain ⟨q, hq, rfl⟩ := List.mem_map.mp hc
      exact W.big q hq
    · unfold zsS
      rw [List.length_map]
      show 2 + (bitsE n + 1) * s.length ≤ 2 + (bitsE n + 1) * 9
      exact Nat.add_le_add_left (Nat.mul_le_mul_left _ W.l9) _
theorem ends_len {ss : List (List (Int × Int))} (h3 : ss.length ≤ 3) {x : Int} : ∀ n, (endsA (fol ss) x n).length ≤ 3 ^ n
  | 0 => Nat.le_refl _
  | n + 1 => by
    have ih := ends_len h3 (x := x) n
    show ((endsA (fol ss) x n).flatMap (fol ss)).length ≤ _
    have key : ∀ l : List Int, (l.flatMap (fol ss)).length ≤ l.length * 3 := fun l => by
      induction l with
      | nil => exact Nat.zero_le _
      | cons a l ih =>
        rw [List.flatMap_cons, List.length_append, List.length_cons]
        have : (fol ss a).length ≤ 3 := by unfold fol; rw [List.length_map]; exact h3
        omega
    have := key (endsA (fol ss) x n)
    rw [Nat.pow_succ]
    omega
section
variable {P : Program} {w : World} {K : PySem.W.Frag} {mg : Str → Option Value} {base : Heap} {t1 t2 t3 : Tok} {f : Addr} {fd : FuncData} {ad : Ads}
theorem count_call {N : List Addr} {v u1 u2 : V} {H : Hp} {Q : VK} {E : XK} {ss : List (List (Int × Int))} {t b n : Nat} {x y : Int} (l : Live N H) (hd : Dp K (cut N H) v (rowD ss)) (C : Cho ss t) (h1 : Dp K (cut N H) u1 (nD (x, 1))) (h2 : Dp K (cut N H) u2 (nD (y, 1))) (hB : IsMax ss b) (b9 : b ≤ 999) (x60 : x.natAbs ≤ 10 ^ 60) (y9 : y.natAbs ≤ b) (n60 : n ≤ 60)
    (k : ∀ H', Same H H' → Q (.int ((endsA (fol ss) x n).count y : Nat)) H') : sp_count_words ad K [v, u1, u2, .int (n : Int)] H Q E := by
  refine ⟨N, v, u1, u2, _, _, _, .int (n : Int), rfl, l, h1, h2, .int _, .inr ⟨ss, t, b, hd, C, hB, by omega, fun e he => ?_, fun _ => ⟨fun e he => ?_, fun _ x' y' e1 e2 => ?_⟩⟩⟩
  · rw [show nD (x, 1) = .tuple [.int x, .int 1] from rfl, intOut_int x60] at he; cases he
  · rw [show nD (y, 1) = .tuple [.int y, .int 1] from rfl, intOut_int (Nat.le_trans (show y.natAbs ≤ 999 by omega) (by decide))] at he; cases he
  · cases e1
    cases e2
    have m : Nat.max b y.natAbs = b := Nat.max_eq_left y9
    have el : lenN (.int (n : Int)) = some n := by
      show (if 0 ≤ (n : Int) ∧ (n : Int) ≤ 60 then some (n : Int).toNat else none) = _
      rw [if_pos (by omega), Int.toNat_natCast]
    refine ⟨fun h => (by rw [el] at h; cases h), fun n' hn => ?_⟩
    rw [el] at hn
    cases hn
    refine ⟨by omega, fun h => (by rw [m] at h; omega), fun _ H' s' => ?_⟩
    rw [count_all C.ws hB y9]
    exact k H' s'
def sp_law_all_ends (K : PySem.W.Frag) : Sp := fun vs H Q _ => ∃ (N : List Addr) (v : V) (ss : List (List (Int × Int))) (n : Nat) (x : Int), vs = [v, .int x, .int (n : Int)] ∧ Dp K (cut N H) v (rowD ss) ∧ ss.length ≤ 3 ∧ (∀ s ∈ ss, WS s 2) ∧ x.natAbs < 2 ^ 7 ∧ n ≤ 4 ∧
  ∀ (R : Addr) (H' : Hp), Same H H' → H R = none → H' R = some (.lst ((endsA (fol ss) x n).map V.int)) → Q (.ref R) H'
theorem ok__law_all_ends (F : Fun K "_law_all_ends" "_law_all_ends" s__law_all_ends f fd) (T : Txt K mg t1 t2 t3) (C__law_led_to : Ce P w K mg base CX0 1 "_law_led_to" ["told", "here"] (sp_law_led_to K)) : FnOk P w K mg base CX0 2 f fd ["steps_so", "first", "size"] (sp_law_all_ends K) := by
  refine F.ok sc__law_all_ends (fun vs H Q E h => ?_) (fun cdv A outer s0 H vs Q E hr h => ?_)
  · obtain ⟨N, v, ss, n, x, rfl, _⟩ := h
    rfl
  · obtain ⟨N, v, ss, n, x, rfl, hd, l3, hw, hx, hn, k⟩ := h
    refine ⟨_, (pss_cons (ps_set (i := 3) sc__law_all_ends.nd rfl (Or.inl rfl) (pe_lst (pa_cons (pv 1) pa_nil)))
      (pss_cons (ps_for PassesOwn.never rfl (pi_range1 rfl T.f_range (pa_cons (pv 2) pa_nil)) (pg_name (i := 4) sc__law_all_ends.nd rfl (Or.inl rfl))
      (pss_cons (ps_set (i := 5) sc__law_all_ends.nd rfl (Or.inl rfl) (pe_lst pa_nil))
      (pss_cons (ps_for PassesOwn.never rfl (pi_list (pv 3)) (pg_name (i := 6) sc__law_all_ends.nd rfl (Or.inr rfl))
      (pss_one (ps_set (i := 5) sc__law_all_ends.nd rfl (Or.inl rfl) (pe_op op_cat (pv 5) (pe_lc (own := [("told", 7)]) (g := gName 7) rfl sc__law_all_ends.nd (pi_tup (pv 0)) (blkOk_by (N := ["steps_so", "first", "size", "found", "turn", "more", "here", "told"]) (sc := defScope s__law_all_ends) (by decide +kernel)) (fun _ _ _ _ _ => by exact (pg_name (i := 7) sc__law_all_ends.nd rfl (Or.inl rfl))) (fun _ _ _ _ _ => by exact pts_nil) (fun _ _ _ _ _ => by exact (pe_ce C__law_led_to (hr.mono (by decide)) pass0 (pa_cons (pv 7) (pa_cons (pv 6) pa_nil)))))))))
      (pss_one (ps_set (i := 3) sc__law_all_ends.nd rfl (Or.inl rfl) (pv 5))))))
      (pss_one (ps_ret (pv 3))))), ?_⟩
    obtain ⟨av, xs, rfl, hS, hD⟩ := hd.tupI
    have lx : xs.length = ss.length := by rw [hD.length, List.length_map]
    refine ⟨_, rfl, (by show 1 ≤ sizeLine; decide), fun R0 nR0 => ?_⟩
    refine ⟨_, rfl, (n : Int), rfl, by omega, by omega, ?_⟩
    rw [Int.toNat_natCast]
    refine for_range (lo := 0) (n := n) (fun i σ H' => ∃ R o4 o5 o6 o7, σ = [some (.ref av), some (.int x), some (.int (n : Int)), some (.ref R), o4, o5, o6, o7] ∧ Same H H' ∧ H R = none ∧ H' R = some (.lst ((endsA (fol ss) x i).map V.int))) ⟨R0, _, _, _, _, rfl, same_new nR0, nR0, upd_same⟩ ?_ ?_
    · rintro i σ H1 hi ⟨R, o4, o5, o6, o7, rfl, s1, nR, hR⟩
      have hi4 : i < 4 := by omega
      refine ⟨(by show 0 ≤ sizeLine; exact Nat.zero_le _), fun M0 nM0 => ?_⟩
      have y0 := same_new (o := .lst []) nM0
      have s2 := s1.trans y0
      have nM0H := none_back s1 nM0
      have hM0 : (upd H1 M0 (.lst [])) M0 = some (.lst ((((endsA (fol ss) x i).take 0).flatMap (fol ss)).map V.int)) := upd_same
      have hR := y0 _ _ hR
      generalize upd H1 M0 (.lst []) = H2 at s2 hM0 hR ⊢
      have eb := ends_bits hw hx i
      have el := ends_len l3 (x := x) i
      have p3 : 3 ^ i ≤ 3 ^ 3 := Nat.pow_le_pow_right (by decide) (by omega)
      have bE : bitsE i ≤ 8000 := by
        rcases (by omega : i = 0 ∨ i = 1 ∨ i = 2 ∨ i = 3) with z | z | z | z <;> rw [z] <;> decide
      have hRH : ∀ {H' : Hp}, Same H2 H' → SqL K H' R ((endsA (fol ss) x i).map V.int) := fun s' => .inl (.inl (s' _ _ hR))
      refine ⟨_, rfl, R, rfl, ⟨_, .inl (.inl hR)⟩, for_list (K := K) (a := R) (xs := (endsA (fol ss) x i).map V.int) (fun j σ H' => ∃ Mo o6 o7, σ = [some (.ref av), some (.int x), some (.int (n : Int)), some (.ref R), some (.int (0 + (i : Int))), some (.ref Mo), o6, o7] ∧ Same H2 H' ∧ H Mo = none ∧ H' Mo = some (.lst ((((endsA (fol ss) x i).take j).flatMap (fol ss)).map V.int))) ⟨M0, _, _, rfl, Same.refl _, nM0H, hM0⟩ (fun j σ H' _ h => by obtain ⟨_, _, _, _, s', _⟩ := h; exact hRH s') ?_ ?_⟩
      · rintro j u σ H3 hu ⟨Mo, o6, o7, rfl, s3, nMo, hMo⟩
        obtain ⟨y, hy, rfl⟩ := map_get hu
        have yb := eb y (List.mem_of_getElem? hy)
        have s23 := s2.trans s3
        refine ⟨_, rfl, _, rfl, av, rfl, ⟨_, seq_same s23 (seq_un hS)⟩, fun Cc nC => ?_⟩
        have MC : Mo ≠ Cc := fun c => by rw [← c, hMo] at nC; cases nC
        have smC : ∀ {H' : Hp}, (∀ b o, b ≠ Cc → H3 b = some o → H' b = some o) → Same H3 H' := fun h b o e => h b o (ne_of_none e nC) e
        refine lc_tup (K := K) (a := av) (xs := xs) (fun q H' => (∀ b o, b ≠ Cc → H3 b = some o → H' b = some o) ∧ H' Cc = some (.lst ((ss.take q).map fun s => V.int (hornZ (zsS s) y)))) ?_ (fun q H' _ h => seq_same (s23.trans (smC h.1)) (seq_un hS)) (fun q u H' hq h => ?_) (fun H5 h => ?_)
        · exact ⟨fun b o h e => by rw [upd_ne h]; exact e, upd_same⟩
        · obtain ⟨kp, hC⟩ := h
          obtain ⟨d, hd1, hud⟩ := hD.get' hq
          obtain ⟨s, hs, rfl⟩ := map_get hd1
          have W := hw s (List.mem_of_getElem? hs)
          have l9 := W.l9
          refine ⟨rfl, _, rfl, _, rfl, u, s, y, 2, bitsE i, rfl, (dp_ex hud (s23.trans (smC kp))).un, W.big, yb, by omega, ?_, fun H6 s6 => ⟨_, s6 _ _ hC, ?_, fun b o h e => ?_, ?_⟩⟩
          · have : (bitsE i + 1) * (s.length + 1) ≤ (8000 + 1) * 10 := Nat.mul_le_mul (by omega) (by omega)
            omega
          · rw [List.length_map, List.length_take, sizeLine_eq]; omega
          · rw [upd_ne h]; exact s6 _ _ (kp b o h e)
          · rw [upd_same, take_more hs, List.map_append]; rfl
        · obtain ⟨kp, hC⟩ := h
          rw [lx, List.take_length] at hC
          have hMo5 := kp Mo _ MC hMo
          have lM : (((endsA (fol ss) x i).take j).flatMap (fol ss)).length ≤ 100 := by
            have key : ∀ l : List Int, (l.flatMap (fol ss)).length ≤ l.length * 3 := fun l => by
              induction l with
              | nil => exact Nat.zero_le _
              | cons a l ih =>
                rw [List.flatMap_cons, List.length_append, List.length_cons]
                have : (fol ss a).length ≤ 3 := by unfold fol; rw [List.length_map]; exact l3
                omega
            have h1 := key ((endsA (fol ss) x i).take j)
            have h2 : ((endsA (fol ss) x i).take j).length ≤ (endsA (fol ss) x i).length := by rw [List.length_take]; omega
            omega
          refine ⟨Mo, Cc, _, _, rfl, rfl, hMo5, hC, by rw [List.length_map, List.length_map, sizeLine_eq]; omega, fun p np => ⟨p, _, _, rfl, ?_, ?_, ?_⟩⟩
          · exact (s3.trans (smC kp)).trans (same_new np)
          · exact none_back (s23.trans (smC kp)) np
          · rw [upd_same, take_more hy, List.flatMap_append, List.map_append]
            simp [fol]
      · rintro σ H3 ⟨Mo, o6, o7, rfl, s3, nMo, hMo⟩
        rw [List.length_map, List.take_length] at hMo
        exact ⟨_, rfl, Mo, _, _, _, _, rfl, s2.trans s3, nMo, hMo⟩
    · rintro σ H1 ⟨R, o4, o5, o6, o7, rfl, s1, nR, hR⟩
      exact ⟨_, rfl, k R H1 s1 nR hR⟩
end
end My

set_option Elab.async false
set_option linter.all false
set_option maxRecDepth 100000
set_option maxHeartbeats 8000000
set_option exponentiation.threshold 20000
namespace My
open PySem PySem.Spec PyProof.Rows L2 LamX
theorem cnt_small {ss : List (List (Int × Int))} (h3 : ss.length ≤ 3) {x y : Int} {n : Nat} (hn : n ≤ 60) : (((endsA (fol ss) x n).count y : Nat) : Int).natAbs < 2 ^ 1000 := by
  rw [Int.natAbs_natCast]
  have h1 := ends_len h3 (x := x) n
  have h2 : (endsA (fol ss) x n).count y ≤ (endsA (fol ss) x n).length := List.count_le_length
  have h4 : 3 ^ n ≤ 3 ^ 60 := Nat.pow_le_pow_right (by decide) hn
  have h5 : (3 : Nat) ^ 60 < 2 ^ 1000 := by decide +kernel
  omega
theorem sh_cnt {c : Int} (h : c.natAbs < 2 ^ 1000) : Sh 1000000 60 (.int c) ∧ rpOk (.int c) = true :=
  ⟨(sh_int (Nat.lt_of_lt_of_le h (Nat.pow_le_pow_right (by decide) (by decide)))).mono (by decide) (by decide), by
    show decide (c.natAbs.log2 < 1920) = true
    exact decide_eq_true (Nat.lt_of_lt_of_le (log_of (n := 1000) (by decide) h) (by decide))⟩
theorem count_zero {ss : List (List (Int × Int))} {t B n : Nat} {x y : Int} (hw : ∀ s ∈ ss, WS s t) (hB : IsMax ss B) (hy : y.natAbs ≤ B) (no : x.natAbs ≤ B → y ∉ keysE (bfsE B (fol ss) x)) : (endsA (fol ss) x n).count y = 0 := by
  rw [← count_keepIn hy, ends_same (far_out hw hB)]
  refine List.count_eq_zero.mpr fun h => ?_
  by_cases c : x.natAbs ≤ B
  · exact no c (ends_keys c h)
  · rw [ends_none (by omega)] at h; cases h
theorem count_pos {ss : List (List (Int × Int))} {t B : Nat} {x : Int} {e : Ent} (hw : ∀ s ∈ ss, WS s t) (hB : IsMax ss B) (hx : x.natAbs ≤ B) (he : e ∈ bfsE B (fol ss) x) : 0 < (endsA (fol ss) x e.w.length).count e.z := by
  have hy := bfs_within hx (F := fol ss) (2 * B + 1) e he
  rw [← count_keepIn hy, ends_same (far_out hw hB)]
  exact List.count_pos_iff.mpr (wlk_ends hx ((bfs_rooted (M := B) (F := fol ss) (s := x) (2 * B + 1)).walk (bfs_within hx (2 * B + 1)) _ e he rfl))
def partS (ss : List (List (Int × Int))) (x y : Int) (n i : Nat) : Nat := ((ss.take i).map fun s => (endsA (fol ss) (hornZ (zsS s) x) n).count y).sum
theorem partS_all {ss : List (List (Int × Int))} {x y : Int} {n : Nat} : partS ss x y n ss.length = (endsA (fol ss) x (n + 1)).count y := by
  rw [endsA_front, count_flat, partS, List.take_length]
  unfold fol
  rw [List.map_map]
  rfl
theorem partS_next {ss : List (List (Int × Int))} {x y : Int} {n i : Nat} {s : List (Int × Int)} (h : ss[i]? = some s) : partS ss x y n (i + 1) = partS ss x y n i + (endsA (fol ss) (hornZ (zsS s) x) n).count y := by
  unfold partS
  rw [take_more h, List.map_append, List.sum_append]
  simp
section
variable {P : Program} {w : World} {K : PySem.W.Frag} {mg : Str → Option Value} {base : Heap} {t1 t2 t3 : Tok} {f : Addr} {fd : FuncData} {ad : Ads}
def sp_law_right (K : PySem.W.Frag) : Sp := fun vs H Q _ => ∃ (N : List Addr) (pd pl : Addr) (m : Nat), vs = [.ref pd] ∧ Live N H ∧ St K N H pd pl m ∧ m ≤ 400000 ∧ ∀ H', Chg pd pl H H' → St K N H' pd pl (m + 60) → Q (.bl true) H'
theorem ok__law_right (F : Fun K "_law_right" "_law_right" s__law_right f fd) (T : Txt K mg t1 t2 t3) (C__law_draw : Ce P w K mg base CX0 2 "_law_draw" ["state", "limit"] (sp_law_draw K)) (C__law_choices : Ce P w K mg base CX0 4 "_law_choices" ["state"] (sp_law_choices K)) (C__law_most : Ce P w K mg base CX0 6 "_law_most" ["steps_so"] (sp_law_most K)) (C__law_led_to : Ce P w K mg base CX0 1 "_law_led_to" ["told", "here"] (sp_law_led_to K))
    (C__law_all_ends : Ce P w K mg base CX0 2 "_law_all_ends" ["steps_so", "first", "size"] (sp_law_all_ends K)) (C_count_words : Ce P w K mg base (L2.CX P w) 8 "count_words" ["steps", "start", "goal", "length"] (sp_count_words ad K))
    (C_reach : Ce P w K mg base (L2.CX P w) 8 "reach" ["steps", "start", "goal"] (sp_reach K)) (C__law_like3 : CeG P w K mg base CX0 1 "_law_like" ["got", "due"] (sp_law_like3 K)) : FnG P w K mg base CX0 10 f fd ["state"] (sp_law_right K) := by
  refine fun_g F sc__law_right (fun vs H Q E h => ?_) (fun cdv A outer s0 H vs Q E hcdv hgd hr h => ?_)
  · obtain ⟨N, pd, pl, m, rfl, _⟩ := h
    rfl
  · obtain ⟨N, pd, pl, m, rfl, l, S, hm, k⟩ := h
    have hgd : (A.deeper (envOfC "_law_right" (defScope s__law_right) s0.heap.objs.size f cdv)).guards = some [] := hgd
    refine ⟨_, (pss_cons (ps_set (i := 1) sc__law_right.nd rfl (Or.inl rfl) (pe_ce C__law_choices (hr.mono (by decide)) pass0 (pa_cons (pv 0) pa_nil)))
      (pss_cons (ps_set (i := 2) sc__law_right.nd rfl (Or.inl rfl) (pe_ce C__law_most (hr.mono (by decide)) pass0 (pa_cons (pv 1) pa_nil)))
      (pss_cons (ps_set (i := 3) sc__law_right.nd rfl (Or.inl rfl) (pe_op op_sub (pe_op op_sub (pe_ce C__law_draw (hr.mono (by decide)) pass0 (pa_cons (pv 0) (pa_cons (pe_op op_add (pe_op op_mulW pe_int (pv 2)) pe_int) pa_nil))) (pv 2)) pe_int))
      (pss_cons (ps_set (i := 4) sc__law_right.nd rfl (Or.inl rfl) (pe_op op_sub (pe_ce C__law_draw (hr.mono (by decide)) pass0 (pa_cons (pv 0) (pa_cons (pe_op op_add (pe_op op_mulW pe_int (pv 2)) pe_int) pa_nil))) (pv 2)))
      (pss_cons (ps_for PassesOwn.never rfl (pi_range1 rfl T.f_range (pa_cons pe_int pa_nil)) (pg_name (i := 5) sc__law_right.nd rfl (Or.inl rfl))
      (pss_cons (ps_set (i := 9) sc__law_right.nd rfl (Or.inl rfl) (pe_bm PySem.F.plainAttrs_list PySem.F.slot_list_count PySem.F.type_list_count mt_lcount (pe_ce C__law_all_ends (hr.mono (by decide)) pass0 (pa_cons (pv 1) (pa_cons (pv 3) (pa_cons (pv 5) pa_nil)))) (pa_cons (pv 4) pa_nil)))
      (pss_one (ps_if (pt_not (pt_val (pe_ceG C__law_like3 (hr.mono (by decide)) hgd pass0 (pa_cons (pe_ce C_count_words (hr.mono (by decide)) passL (pa_cons (pv 1) (pa_cons (pe_tup (pa_cons (pv 3) (pa_cons pe_int pa_nil))) (pa_cons (pe_tup (pa_cons (pv 4) (pa_cons pe_int pa_nil))) (pa_cons (pv 5) pa_nil))))) (pa_cons (pv 9) pa_nil))))) (pss_one (ps_ret pe_bl)) pss_nil))))
      (pss_cons (ps_set (i := 5) sc__law_right.nd rfl (Or.inl rfl) (pe_ce C__law_draw (hr.mono (by decide)) pass0 (pa_cons (pv 0) (pa_cons pe_int pa_nil))))
      (pss_cons (ps_set (i := 6) sc__law_right.nd rfl (Or.inl rfl) pe_int)
      (pss_cons (ps_for PassesOwn.never rfl (pi_tup (pv 1)) (pg_name (i := 7) sc__law_right.nd rfl (Or.inl rfl))
      (pss_cons (ps_set (i := 10) sc__law_right.nd rfl (Or.inl rfl) (pe_tup (pa_cons (pe_ce C__law_led_to (hr.mono (by decide)) pass0 (pa_cons (pv 7) (pa_cons (pv 3) pa_nil))) (pa_cons pe_int pa_nil))))
      (pss_one (ps_set (i := 6) sc__law_right.nd rfl (Or.inl rfl) (pe_op op_add (pv 6) (pe_ce C_count_words (hr.mono (by decide)) passL (pa_cons (pv 1) (pa_cons (pv 10) (pa_cons (pe_tup (pa_cons (pv 4) (pa_cons pe_int pa_nil))) (pa_cons (pv 5) pa_nil))))))))))
      (pss_cons (ps_if (pt_not (pt_val (pe_ceG C__law_like3 (hr.mono (by decide)) hgd pass0 (pa_cons (pe_ce C_count_words (hr.mono (by decide)) passL (pa_cons (pv 1) (pa_cons (pe_tup (pa_cons (pv 3) (pa_cons pe_int pa_nil))) (pa_cons (pe_tup (pa_cons (pv 4) (pa_cons pe_int pa_nil))) (pa_cons (pe_op op_add (pv 5) pe_int) pa_nil))))) (pa_cons (pv 6) pa_nil))))) (pss_one (ps_ret pe_bl)) pss_nil)
      (pss_cons (ps_set (i := 8) sc__law_right.nd rfl (Or.inl rfl) (pe_ce C_reach (hr.mono (by decide)) passL (pa_cons (pv 1) (pa_cons (pe_tup (pa_cons (pv 3) (pa_cons pe_int pa_nil))) (pa_cons (pe_tup (pa_cons (pv 4) (pa_cons pe_int pa_nil))) pa_nil)))))
      (pss_cons (ps_if (pt_cmpR op_isN (pv 8) pe_non (nomark _)) (pss_one (ps_ret (pe_cmpR op_eq (pe_ce C_count_words (hr.mono (by decide)) passL (pa_cons (pv 1) (pa_cons (pe_tup (pa_cons (pv 3) (pa_cons pe_int pa_nil))) (pa_cons (pe_tup (pa_cons (pv 4) (pa_cons pe_int pa_nil))) (pa_cons (pe_ce C__law_draw (hr.mono (by decide)) pass0 (pa_cons (pv 0) (pa_cons pe_int pa_nil))) pa_nil))))) pe_int (nomark _)))) pss_nil)
      (pss_cons (ps_if (pt_cmpR op_gt (pe_callB call_len_seq (by rfl) T.f_len (by decide +kernel) (pa_cons (pv 8) pa_nil)) pe_int (nomark _)) (pss_one (ps_ret pe_bl)) pss_nil)
      (pss_one (ps_ret (pe_cmpR op_gt (pe_ce C_count_words (hr.mono (by decide)) passL (pa_cons (pv 1) (pa_cons (pe_tup (pa_cons (pv 3) (pa_cons pe_int pa_nil))) (pa_cons (pe_tup (pa_cons (pv 4) (pa_cons pe_int pa_nil))) (pa_cons (pe_callB call_len_seq (by rfl) T.f_len (by decide +kernel) (pa_cons (pv 8) pa_nil)) pa_nil))))) pe_int (nomark _)))))))))))))))), ?_⟩
    refine ⟨_, rfl, N, pd, pl, _, rfl, l, S, by omega, fun vt ss J1 c1 S1 dt n1 n3 hw => ?_⟩
    have l := S1.live c1 l
    have S := S1
    have CC := c1
    clear c1 S1
    refine ⟨_, rfl, N, vt, ss, rfl, l, dt, by omega, hw, fun B J2 s1 hB B10 => ?_⟩
    have B63 := max_small hB hw
    have B1 := hB.ge.1
    have l := l.same s1
    have S := S.same s1
    have dt := dp_ex dt s1
    have CC := CC.trans (Chg.of s1)
    clear s1 B10
    have C : Cho ss 2 := ⟨n1, by omega, hw, by decide⟩
    refine ⟨_, rfl, _, rfl, 2, (B : Int), rfl, rfl, W2 (c := 3) (d := 11) (by decide) (by rw [Int.natAbs_natCast]; exact Nat.lt_of_le_of_lt B63 (by decide)) (by decide), _, _, rfl, rfl, N, pd, pl, _, 2 * (B : Int) + 3, rfl, l, S, by omega, by omega, log_small (n := 8) (Nat.lt_of_le_of_lt (show (2 * (B : Int) + 3).natAbs ≤ 129 by omega) (by decide)) (by decide) (by decide), fun r1 J3 r1a r1b c1 S1 => ?_⟩
    have l := S1.live c1 l
    have dt := dt.ext (c1.cut S.md S.ml)
    have CC := CC.trans c1
    have S := S1
    clear c1 S1
    refine ⟨_, rfl, _, _, rfl, rfl, _, _, rfl, rfl, ?_⟩
    obtain ⟨x, hx⟩ : ∃ x : Int, r1 - B - 1 = x := ⟨_, rfl⟩
    have ex : (fun i j : Int => V.int (i - j)) (r1 - B) 1 = V.int x := by show V.int (r1 - B - 1) = _; rw [hx]
    rw [ex]
    have x64 : x.natAbs ≤ B + 1 := by omega
    clear ex hx r1a r1b
    refine ⟨_, rfl, _, rfl, 2, (B : Int), rfl, rfl, W2 (c := 3) (d := 11) (by decide) (by rw [Int.natAbs_natCast]; exact Nat.lt_of_le_of_lt B63 (by decide)) (by decide), _, _, rfl, rfl, N, pd, pl, _, 2 * (B : Int) + 1, rfl, l, S, by omega, by omega, log_small (n := 8) (Nat.lt_of_le_of_lt (show (2 * (B : Int) + 1).natAbs ≤ 127 by omega) (by decide)) (by decide) (by decide), fun r2 J4 r2a r2b c1 S1 => ?_⟩
    have l := S1.live c1 l
    have dt := dt.ext (c1.cut S.md S.ml)
    have CC := CC.trans c1
    have S := S1
    clear c1 S1
    refine ⟨_, rfl, _, _, rfl, rfl, ?_⟩
    obtain ⟨y, hy⟩ : ∃ y : Int, r2 - B = y := ⟨_, rfl⟩
    have ey : (fun i j : Int => V.int (i - j)) r2 (B : Int) = V.int y := by show V.int (r2 - B) = _; rw [hy]
    rw [ey]
    have yB : y.natAbs ≤ B := by omega
    clear ey hy r2a r2b
    have x60 : x.natAbs ≤ 10 ^ 60 := Nat.le_trans (show x.natAbs ≤ 64 by omega) (by decide)
    have x7 : x.natAbs < 2 ^ 7 := Nat.lt_of_le_of_lt (show x.natAbs ≤ 64 by omega) (by decide)
    refine ⟨5, rfl, by decide, by decide, for_range (lo := 0) (n := 5) (fun i σ H' => Same J4 H' ∧ ∃ o5 o9, σ = [some (.ref pd), some vt, some (.int (B : Int)), some (.int x), some (.int y), o5, none, none, none, o9, none]) ⟨Same.refl _, _, _, rfl⟩ ?_ ?_⟩
    · rintro i σ H1 hi ⟨s1, o5, o9, rfl⟩
      have dt := dp_ex dt s1
      have l := l.same s1
      rw [Int.zero_add]
      refine ⟨_, rfl, _, rfl, _, rfl, N, vt, ss, i, x, rfl, dt, n3, hw, x7, by omega, fun R H2 s2 nR hR => ⟨.inl ⟨rfl, _, .inl (.inl hR)⟩, _, rfl, R, _, y, rfl, rfl, .inl (.inl hR), ?_⟩⟩
      obtain ⟨c, hc⟩ : ∃ c : Nat, (endsA (fol ss) x i).count y = c := ⟨_, rfl⟩
      have cs := sh_cnt (cnt_small n3 (x := x) (y := y) (n := i) (by omega))
      rw [hc] at cs ⊢
      have dt := dp_ex dt s2
      have l := l.same s2
      have s1 := s1.trans s2
      refine ⟨_, rfl, _, rfl, (by show 2 ≤ sizeLine; decide), fun p1 mp1 => ?_⟩
      have y1 := same_new (o := .tup [V.int x, V.int 1]) mp1
      have dp1 : Dp K (cut N (upd H2 p1 (.tup [V.int x, V.int 1]))) (.ref p1) (nD (x, 1)) := new_tup l mp1 dp_two
      have l := l.same y1
      have dt := dp_ex dt y1
      have s1 := s1.trans y1
      generalize upd H2 p1 (.tup [V.int x, V.int 1]) = J1 at l s1 dt dp1 ⊢
      clear y1 mp1
      refine ⟨_, rfl, (by show 2 ≤ sizeLine; decide), fun p2 mp2 => ?_⟩
      have y1 := same_new (o := .tup [V.int y, V.int 1]) mp2
      have dp2 : Dp K (cut N (upd J1 p2 (.tup [V.int y, V.int 1]))) (.ref p2) (nD (y, 1)) := new_tup l mp2 dp_two
      have l := l.same y1
      have dt := dp_ex dt y1
      have dp1 := dp_ex dp1 y1
      have s1 := s1.trans y1
      generalize upd J1 p2 (.tup [V.int y, V.int 1]) = J2 at l s1 dt dp1 dp2 ⊢
      clear y1 mp2
      refine ⟨_, rfl, count_call l dt C dp1 dp2 hB (by omega) x60 yB (by omega) fun H5 s5 => ?_⟩
      rw [hc]
      exact ⟨_, rfl, .int _, .int _, .int _, rfl, .int _, .int _, cs.1, cs.2, _, rfl, iteF ⟨s1.trans s5, _, _, rfl⟩⟩
    rintro σ J5 ⟨s1, o5, o9, rfl⟩
    have l := l.same s1
    have S := S.same s1
    have dt := dp_ex dt s1
    have CC := CC.trans (Chg.of s1)
    clear s1
    refine ⟨_, rfl, N, pd, pl, _, 60, rfl, l, S, by omega, by decide, by decide, fun r3 J6 r3a r3b c1 S1 => ?_⟩
    have l := S1.live c1 l
    have dt := dt.ext (c1.cut S.md S.ml)
    have CC := CC.trans c1
    have S := S1
    clear c1 S1
    obtain ⟨n, rfl⟩ : ∃ n : Nat, r3 = (n : Int) := ⟨r3.toNat, by omega⟩
    obtain ⟨av, xs, rfl, hS, hD⟩ := id dt.tupI
    have lx : xs.length = ss.length := by rw [hD.length, List.length_map]
    refine ⟨_, rfl, av, rfl, ⟨_, seq_un hS⟩, for_tup (K := K) (a := av) (xs := xs) (fun i σ H' => Same J6 H' ∧ ∃ o7 o10, σ = [some (.ref pd), some (.ref av), some (.int (B : Int)), some (.int x), some (.int y), some (.int (n : Int)), some (.int (partS ss x y n i : Nat)), o7, none, o9, o10]) ⟨Same.refl _, _, _, rfl⟩ (fun i σ H' _ h => seq_same h.1 (seq_un hS)) ?_ ?_⟩
    · rintro i u σ H1 hu ⟨s1, o7, o10, rfl⟩
      obtain ⟨d, hd1, hud⟩ := hD.get' hu
      obtain ⟨s, hs, rfl⟩ := map_get hd1
      have W := hw s (List.mem_of_getElem? hs)
      have l9 := W.l9
      have dt := dp_ex dt s1
      have l := l.same s1
      refine ⟨_, rfl, _, rfl, u, s, x, 2, 7, rfl, (dp_ex hud s1).un, W.big, x7, by omega, by omega, fun H2 s2 => ?_⟩
      obtain ⟨z, hz⟩ : ∃ z, hornZ (zsS s) x = z := ⟨_, rfl⟩
      have z60 : z.natAbs ≤ 10 ^ 60 := by
        rw [← hz]
        have := hornZ_bd (t := 2) (ns := zsS s) x7 fun c hc => by
          obtain ⟨q, hq, rfl⟩ := List.mem_map.mp hc
          exact W.big q hq
        refine Nat.le_of_lt (Nat.lt_of_lt_of_le this (Nat.le_trans (Nat.pow_le_pow_right (by decide) (show 2 + (7 + 1) * (zsS s).length ≤ 82 by unfold zsS; rw [List.length_map]; omega)) (by decide)))
      rw [show hornZ (s.map Prod.fst) x = z from hz]
      have dt := dp_ex dt s2
      have l := l.same s2
      have s1 := s1.trans s2
      refine ⟨(by show 2 ≤ sizeLine; decide), fun p1 mp1 => ?_⟩
      have y1 := same_new (o := .tup [V.int z, V.int 1]) mp1
      have dp1 : Dp K (cut N (upd H2 p1 (.tup [V.int z, V.int 1]))) (.ref p1) (nD (z, 1)) := new_tup l mp1 dp_two
      have l := l.same y1
      have dt := dp_ex dt y1
      have s1 := s1.trans y1
      generalize upd H2 p1 (.tup [V.int z, V.int 1]) = J1 at l s1 dt dp1 ⊢
      clear y1 mp1
      refine ⟨_, rfl, _, rfl, _, rfl, _, rfl, (by show 2 ≤ sizeLine; decide), fun p2 mp2 => ?_⟩
      have y1 := same_new (o := .tup [V.int y, V.int 1]) mp2
      have dp2 : Dp K (cut N (upd J1 p2 (.tup [V.int y, V.int 1]))) (.ref p2) (nD (y, 1)) := new_tup l mp2 dp_two
      have l := l.same y1
      have dt := dp_ex dt y1
      have dp1 := dp_ex dp1 y1
      have s1 := s1.trans y1
      generalize upd J1 p2 (.tup [V.int y, V.int 1]) = J2 at l s1 dt dp1 dp2 ⊢
      clear y1 mp2
      refine ⟨_, rfl, count_call l dt C dp1 dp2 hB (by omega) z60 yB (by omega) fun H5 s5 => ?_⟩
      refine ⟨_, _, rfl, rfl, ?_⟩
      have ep : (fun i j : Int => V.int (i + j)) ((partS ss x y n i : Nat) : Int) (((endsA (fol ss) z n).count y : Nat) : Int) = V.int ((partS ss x y n (i + 1) : Nat) : Int) := by
        rw [partS_next hs, hz]
        show V.int (_ + _) = _
        rw [Int.natCast_add]
      rw [ep]
      exact ⟨s1.trans s5, _, _, rfl⟩
    rintro σ J7 ⟨s1, o7, o10, rfl⟩
    rw [lx, partS_all]
    clear lx hS hD
    have l := l.same s1
    have S := S.same s1
    have dt := dp_ex dt s1
    have CC := CC.trans (Chg.of s1)
    clear s1
    refine ⟨_, rfl, _, rfl, (by show 2 ≤ sizeLine; decide), fun p1 mp1 => ?_⟩
    have y1 := same_new (o := .tup [V.int x, V.int 1]) mp1
    have dp1 : Dp K (cut N (upd J7 p1 (.tup [V.int x, V.int 1]))) (.ref p1) (nD (x, 1)) := new_tup l mp1 dp_two
    have l := l.same y1
    have S := S.same y1
    have dt := dp_ex dt y1
    have CC := CC.trans (Chg.of y1)
    generalize upd J7 p1 (.tup [V.int x, V.int 1]) = J1 at l S dt dp1 CC ⊢
    clear y1 mp1
    refine ⟨_, rfl, (by show 2 ≤ sizeLine; decide), fun p2 mp2 => ?_⟩
    have y1 := same_new (o := .tup [V.int y, V.int 1]) mp2
    have dp2 : Dp K (cut N (upd J1 p2 (.tup [V.int y, V.int 1]))) (.ref p2) (nD (y, 1)) := new_tup l mp2 dp_two
    have l := l.same y1
    have S := S.same y1
    have dt := dp_ex dt y1
    have dp1 := dp_ex dp1 y1
    have CC := CC.trans (Chg.of y1)
    generalize upd J1 p2 (.tup [V.int y, V.int 1]) = J2 at l S dt dp1 dp2 CC ⊢
    clear y1 mp2
    refine ⟨_, rfl, _, _, rfl, rfl, ?_⟩
    have en : (fun i j : Int => V.int (i + j)) (n : Int) 1 = V.int ((n + 1 : Nat) : Int) := by show V.int ((n : Int) + 1) = _; rw [Int.natCast_add]; rfl
    rw [en]
    refine count_call l dt C dp1 dp2 hB (by omega) x60 yB (by omega) fun J8 y1 => ?_
    clear dp1
    clear dp2
    have l := l.same y1
    have S := S.same y1
    have dt := dp_ex dt y1
    have CC := CC.trans (Chg.of y1)
    clear y1 en
    have cs := sh_cnt (cnt_small n3 (x := x) (y := y) (n := n + 1) (by omega))
    refine ⟨_, rfl, .int _, .int _, .int _, rfl, .int _, .int _, cs.1, cs.2, _, rfl, iteF ?_⟩
    clear cs
    refine ⟨_, rfl, _, rfl, (by show 2 ≤ sizeLine; decide), fun p3 mp3 => ?_⟩
    have y1 := same_new (o := .tup [V.int x, V.int 1]) mp3
    have dp3 : Dp K (cut N (upd J8 p3 (.tup [V.int x, V.int 1]))) (.ref p3) (nD (x, 1)) := new_tup l mp3 dp_two
    have l := l.same y1
    have S := S.same y1
    have dt := dp_ex dt y1
    have CC := CC.trans (Chg.of y1)
    generalize upd J8 p3 (.tup [V.int x, V.int 1]) = J3 at l S dt dp3 CC ⊢
    clear y1 mp3
    refine ⟨_, rfl, (by show 2 ≤ sizeLine; decide), fun p4 mp4 => ?_⟩
    have y1 := same_new (o := .tup [V.int y, V.int 1]) mp4
    have dp4 : Dp K (cut N (upd J3 p4 (.tup [V.int y, V.int 1]))) (.ref p4) (nD (y, 1)) := new_tup l mp4 dp_two
    have l := l.same y1
    have S := S.same y1
    have dt := dp_ex dt y1
    have dp3 := dp_ex dp3 y1
    have CC := CC.trans (Chg.of y1)
    generalize upd J3 p4 (.tup [V.int y, V.int 1]) = J4 at l S dt dp3 dp4 CC ⊢
    clear y1 mp4
    have mB : Nat.max B y.natAbs = B := Nat.max_eq_left yB
    refine ⟨N, .ref av, .ref p3, .ref p4, ss, 2, B, x, y, rfl, l, dt, C, dp3, dp4, x60, hB, by omega, by omega, fun vw J9 y1 dw => ?_⟩
    clear dp3
    clear dp4
    have l := l.same y1
    have S := S.same y1
    have dt := dp_ex dt y1
    have CC := CC.trans (Chg.of y1)
    clear y1
    rw [mB] at dw
    refine ⟨_, rfl, rfl, _, rfl, ?_⟩
    rcases reach_spec (ss := ss) (M := B) (x := x) (y := y) with ⟨e1, no⟩ | ⟨cM, e, he, ez, e2⟩
    · rw [e1] at dw
      cases dw
      refine iteT ?_
      refine ⟨_, rfl, _, rfl, (by show 2 ≤ sizeLine; decide), fun p5 mp5 => ?_⟩
      have y1 := same_new (o := .tup [V.int x, V.int 1]) mp5
      have dp5 : Dp K (cut N (upd J9 p5 (.tup [V.int x, V.int 1]))) (.ref p5) (nD (x, 1)) := new_tup l mp5 dp_two
      have l := l.same y1
      have S := S.same y1
      have dt := dp_ex dt y1
      have CC := CC.trans (Chg.of y1)
      generalize upd J9 p5 (.tup [V.int x, V.int 1]) = J5 at l S dt dp5 CC ⊢
      clear y1 mp5
      refine ⟨_, rfl, (by show 2 ≤ sizeLine; decide), fun p6 mp6 => ?_⟩
      have y1 := same_new (o := .tup [V.int y, V.int 1]) mp6
      have dp6 : Dp K (cut N (upd J5 p6 (.tup [V.int y, V.int 1]))) (.ref p6) (nD (y, 1)) := new_tup l mp6 dp_two
      have l := l.same y1
      have S := S.same y1
      have dt := dp_ex dt y1
      have dp5 := dp_ex dp5 y1
      have CC := CC.trans (Chg.of y1)
      generalize upd J5 p6 (.tup [V.int y, V.int 1]) = J6 at l S dt dp5 dp6 CC ⊢
      clear y1 mp6
      refine ⟨_, rfl, N, pd, pl, _, 61, rfl, l, S, by omega, by decide, by decide, fun r4 J10 r4a r4b c1 S1 => ?_⟩
      have l := S1.live c1 l
      have dt := dt.ext (c1.cut S.md S.ml)
      have dp5 := dp5.ext (c1.cut S.md S.ml)
      have dp6 := dp6.ext (c1.cut S.md S.ml)
      have CC := CC.trans c1
      have S := S1
      clear c1 S1
      obtain ⟨n4, rfl⟩ : ∃ n4 : Nat, r4 = (n4 : Int) := ⟨r4.toNat, by omega⟩
      refine count_call l dt C dp5 dp6 hB (by omega) x60 yB (by omega) fun J11 y1 => ?_
      refine ⟨rfl, ?_⟩
      show Q (V.bl (decide (V.int (((endsA (fol ss) x n4).count y : Nat) : Int) = V.int 0))) _
      rw [count_zero hw hB yB no, show decide (V.int ((0 : Nat) : Int) = V.int 0) = true from decide_eq_true rfl]
      exact k _ (CC.trans (Chg.of y1)) ((S.same y1).more (by omega))
    rw [e2] at dw
    obtain ⟨pw, ws, rfl, hpw, hws⟩ := (show Dp K (cut N J9) vw (.tuple (e.w.map fun i => .int (i : Nat))) from dw).tupI
    obtain rfl := dp_nats hws
    refine iteF ?_
    refine ⟨_, rfl, pw, _, rfl, .inr (seq_un hpw), _, _, rfl, rfl, _, rfl, ?_⟩
    rw [show (natV e.w).length = e.w.length from List.length_map _]
    by_cases c60 : 60 < e.w.length
    · rw [decide_eq_true (show ((60 : Int) < (e.w.length : Int)) by omega)]
      exact iteT (k _ CC (S.more (by omega)))
    rw [decide_eq_false (show ¬ ((60 : Int) < (e.w.length : Int)) by omega)]
    refine iteF ?_
    have dw : Dp K (cut N J9) (.ref pw) (.tuple (e.w.map fun i => .int (i : Nat))) := dw
    refine ⟨_, rfl, _, rfl, (by show 2 ≤ sizeLine; decide), fun p7 mp7 => ?_⟩
    have y1 := same_new (o := .tup [V.int x, V.int 1]) mp7
    have dp7 : Dp K (cut N (upd J9 p7 (.tup [V.int x, V.int 1]))) (.ref p7) (nD (x, 1)) := new_tup l mp7 dp_two
    have l := l.same y1
    have S := S.same y1
    have dt := dp_ex dt y1
    have dw := dp_ex dw y1
    have CC := CC.trans (Chg.of y1)
    generalize upd J9 p7 (.tup [V.int x, V.int 1]) = J5 at l S dt dw dp7 CC ⊢
    clear y1 mp7
    refine ⟨_, rfl, (by show 2 ≤ sizeLine; decide), fun p8 mp8 => ?_⟩
    have y1 := same_new (o := .tup [V.int y, V.int 1]) mp8
    have dp8 : Dp K (cut N (upd J5 p8 (.tup [V.int y, V.int 1]))) (.ref p8) (nD (y, 1)) := new_tup l mp8 dp_two
    have l := l.same y1
    have S := S.same y1
    have dt := dp_ex dt y1
    have dw := dp_ex dw y1
    have dp7 := dp_ex dp7 y1
    have CC := CC.trans (Chg.of y1)
    generalize upd J5 p8 (.tup [V.int y, V.int 1]) = J6 at l S dt dw dp7 dp8 CC ⊢
    clear y1 mp8
    obtain ⟨pw2, ws2, epw, hpw2, hws2⟩ := dw.tupI
    cases epw
    obtain rfl := dp_nats hws2
    refine ⟨_, rfl, pw, _, rfl, .inr (seq_un hpw2), ?_⟩
    rw [show (natV e.w).length = e.w.length from List.length_map _]
    refine count_call l dt C dp7 dp8 hB (by omega) x60 yB (by omega) fun J11 y1 => ?_
    have cp := count_pos hw hB cM he
    rw [ez] at cp
    refine ⟨_, _, rfl, rfl, ?_⟩
    show Q (V.bl (decide ((0 : Int) < (((endsA (fol ss) x e.w.length).count y : Nat) : Int)))) _
    rw [decide_eq_true (by omega)]
    exact k _ (CC.trans (Chg.of y1)) ((S.same y1).more (by omega))
end
end My

set_option Elab.async false
set_option linter.all false
set_option maxRecDepth 100000
set_option maxHeartbeats 8000000
set_option exponentiation.threshold 20000
namespace My
open PySem PySem.Spec PyProof.Rows L2 LamX
def T2 (PP : Addr) : List (Addr × Str) := [(PP, (Str.ofString "_law_refused" ++ Str.ofString ".<locals>.") ++ Str.ofString "<lambda>")]
abbrev TK (PP : Addr) : Kt := ⟨T2 PP, .non, .none⟩
def oddsF : List PyData := [.none, nD (1, 0), nD (2, 2), .tuple [.bool true, .int 1], nD (10 ^ 60 + 1, 1)]
theorem oddsF_no {d : PyData} (h : d ∈ oddsF) : intOut d = some .num ∧ Sh 4000 1 d := by
  unfold oddsF at h
  simp only [List.mem_cons, List.not_mem_nil, or_false] at h
  rcases h with z | z | z | z | z <;> rw [z] <;> exact ⟨by decide +kernel, sh_of (by decide +kernel)⟩
theorem ismax_ex : ∀ {ss : List (List (Int × Int))}, (∀ s ∈ ss, WS s 2) → ∃ bs : List Nat, bs.length = ss.length ∧ ∀ (i : Nat) (s : List (Int × Int)) (b : Nat), ss[i]? = some s → bs[i]? = some b → Least (RchS s) b
  | [], _ => ⟨[], rfl, fun i s b h => by cases h⟩
  | s :: ss, hw => by
    obtain ⟨bs, h1, h2⟩ := ismax_ex fun s hs => hw s (List.mem_cons_of_mem _ hs)
    have W := hw s List.mem_cons_self
    obtain ⟨b, ⟨c1, c2⟩, no⟩ := least_ex (p := fun b => 1 ≤ b ∧ RchS s b) ⟨show 1 ≤ farW s by unfold farW; omega, W.far⟩
    have Lb : Least (RchS s) b := ⟨c1, c2, fun v hv hlt hr => no v hlt ⟨hv, hr⟩⟩
    refine ⟨b :: bs, by rw [List.length_cons, List.length_cons, h1], fun i s' b' e1 e2 => ?_⟩
    match i, e1, e2 with
    | 0, e1, e2 => cases e1; cases e2; exact Lb
    | i + 1, e1, e2 => exact h2 i s' b' e1 e2
def sizesD : List PyData := [.int (-1), .int 61, .bool true, .none, .str (Str.ofString "2")]
theorem sizesD_no {d : PyData} (h : d ∈ sizesD) : lenN d = none ∧ Sh 4000 1 d := by
  unfold sizesD at h
  simp only [List.mem_cons, List.not_mem_nil, or_false] at h
  rcases h with z | z | z | z | z <;> rw [z] <;> exact ⟨by decide +kernel, sh_of (by decide +kernel)⟩
def szs (i : Nat) : List PyData := (sizesD.take i).map fun d => wordD (.er .par d)
theorem szs_len {i : Nat} (h : i < 5) : (szs i).length = i := by
  unfold szs
  rw [List.length_map, List.length_take]
  exact Nat.min_eq_left (Nat.le_of_lt h)
theorem szs_next {i : Nat} {d : PyData} (h : sizesD[i]? = some d) : szs (i + 1) = szs i ++ [wordD (.er .par d)] := by
  unfold szs
  rw [take_more h, List.map_append]
  rfl
theorem sizes_xs {K : PySem.W.Frag} {H : Hp} {xs : List V} (h : DpAll K H xs sizesD) : xs = [V.int (-1), V.int 61, V.bl true, V.non, V.str "2"] := by
  unfold sizesD at h
  cases h with
  | cons a h => cases h with
  | cons b h => cases h with
  | cons c h => cases h with
  | cons d h => cases h with
  | cons e h =>
    cases h; cases a; cases b; cases c; cases d; cases e
    rfl
theorem cnt99 {ss : List (List (Int × Int))} : (endsW 999 (fol ss) 5 0).count 999 = 0 := by
  show (keepIn 999 [5]).count 999 = 0
  decide +kernel
section
variable {P : Program} {w : World} {K : PySem.W.Frag} {mg : Str → Option Value} {base : Heap} {t1 t2 t3 : Tok} {f : Addr} {fd : FuncData} {ad : Ads} {gr c PP : Addr} {fdr : FuncData}
def sp_law_refused (K : PySem.W.Frag) (PP : Addr) : Sp := fun vs H Q _ => ∃ (N : List Addr) (pd pl : Addr) (m : Nat), vs = [.ref pd] ∧ Wt K (TK PP) pd pl N H m ∧ m ≤ 400000 ∧ ∀ H', Q (.bl true) H'
theorem ok__law_refused (F : Fun K "_law_refused" "_law_refused" s__law_refused f fd) (T : Txt K mg t1 t2 t3) (XS : Exs P w K mg base ad) (XQ : Exq K mg ad)
    (RF : Fun K "_law_word" "_law_word" s__law_word gr fdr) (mR : mg "_law_word" = some (.ref gr)) (bR : Binds K fdr ["call"] []) (TB : TabB base mg c PP) (hc : fd.code = .ref c)
    (C__law_of : Ce P w K mg base CX0 3 "_law_of" ["state", "some"] (sp_law_of K)) (C__law_choices : Ce P w K mg base CX0 4 "_law_choices" ["state"] (sp_law_choices K)) (C_count_words : Ce P w K mg base (L2.CX P w) 8 "count_words" ["steps", "start", "goal", "length"] (sp_count_words ad K))
    (C__law_like3 : CeG P w K mg base CX0 1 "_law_like" ["got", "due"] (sp_law_like3 K)) : FnG P w K mg base CX0 12 f fd ["state"] (sp_law_refused K PP) := by
  refine fun_g F sc__law_refused (fun vs H Q E h => ?_) (fun cdv A outer s H vs Q E hcdv hgd hr h => ?_)
  · obtain ⟨N, pd, pl, m, rfl, _⟩ := h
    rfl
  · obtain ⟨N, pd, pl, m, rfl, W1, hm, k⟩ := h
    rw [hc] at hcdv
    subst hcdv
    have hgd : (A.deeper (envOfC "_law_refused" (defScope s__law_refused) s.heap.objs.size f (.ref c))).guards = some [] := hgd
    have hm0 : (PP, (cxOf CX0 P w K mg base ["state", "steps_so", "odd", "got", "due", "size"] "_law_refused" (defScope s__law_refused) f (.ref c) A outer s H E).nox.env.qual ++ Str.ofString "<lambda>") ∈ (T2 PP) := by
      show (PP, (Str.ofString "_law_refused" ++ Str.ofString ".<locals>.") ++ Str.ofString "<lambda>") ∈ (T2 PP)
      exact List.mem_cons_self
    have hu0 : ∀ p ∈ (T2 PP), p.1 = PP → p.2 = (cxOf CX0 P w K mg base ["state", "steps_so", "odd", "got", "due", "size"] "_law_refused" (defScope s__law_refused) f (.ref c) A outer s H E).nox.env.qual ++ Str.ofString "<lambda>" := fun p hp hq => by
      show p.2 = (Str.ofString "_law_refused" ++ Str.ofString ".<locals>.") ++ Str.ofString "<lambda>"
      simp only [T2, List.mem_cons, List.not_mem_nil, or_false] at hp
      rw [hp]
    have lam : ∀ (e1 : Expr) (p1 p2 p3 : Pos) (sc : Scope) (t : XK → TE), LamS (defScope s__law_refused) sc → (∀ (A2 : Around) (outer2 : List Env) (s2 : Shared) (H2 : Hp) (E2 : XK) (f2 c2 : Addr), Room 8 (A2.deeper (lamEnv (cxOf CX0 P w K mg base ["state", "steps_so", "odd", "got", "due", "size"] "_law_refused" (defScope s__law_refused) f (.ref c) A outer s H E).nox sc s2.heap.objs.size f2 c2)) →
        PE (lamCx (cxOf CX0 P w K mg base ["state", "steps_so", "odd", "got", "due", "size"] "_law_refused" (defScope s__law_refused) f (.ref c) A outer s H E).nox A2 outer2 s2 H2 E2 sc f2 c2) e1 (t E2)) →
        PE (cxOf CX0 P w K mg base ["state", "steps_so", "odd", "got", "due", "size"] "_law_refused" (defScope s__law_refused) f (.ref c) A outer s H E).nox (.Call (.Name "_law_word" p1) [.Lambda noArgs e1 sc p2] [] p3) (tLam (T2 PP) (TTword K ad) t) := by
      intro e1 p1 p2 p3 sc t L hb
      exact pe_lamS (T := (T2 PP)) (TT := TTword K ad) (k := 8) RF mR bR sc__law_word rfl (.inl rfl) (fun cdv => gives_word XS XQ gr cdv _) TB rfl hm0 hu0 (hr.mono (by decide)) L rfl (fun _ _ _ _ _ => rfl) hb
    refine ⟨_, (pss_cons (ps_set (i := 1) sc__law_refused.nd rfl (Or.inr rfl) (pe_ce C__law_choices (hr.mono (by decide)) pass0 (pa_cons (pv 0) pa_nil)))
      (pss_cons (ps_set (i := 2) sc__law_refused.nd rfl (Or.inr rfl) (pe_ce C__law_of (hr.mono (by decide)) pass0 (pa_cons (pv 0) (pa_cons (pe_lst (pa_cons pe_non (pa_cons (pe_tup (pa_cons pe_int (pa_cons pe_int pa_nil))) (pa_cons (pe_tup (pa_cons pe_int (pa_cons pe_int pa_nil))) (pa_cons (pe_tup (pa_cons pe_bl (pa_cons pe_int pa_nil))) (pa_cons (pe_tup (pa_cons (pe_op op_add (pe_op op_pow pe_int pe_int) pe_int) (pa_cons pe_int pa_nil))) pa_nil)))))) pa_nil))))
      (pss_cons (ps_set (i := 3) sc__law_refused.nd rfl (Or.inl rfl) (pe_lst (pa_cons (lam _ _ _ _ _ _ (lamS_by (by decide +kernel)) (fun A2 outer2 s2 H2 E2 f2 c2 hr2 => (pe_ce C_count_words (hr2.mono (by decide)) passLam (pa_cons (pe_tup pa_nil) (pa_cons pe_non (pa_cons pe_non (pa_cons pe_non pa_nil))))))) pa_nil)))
      (pss_cons (ps_expr (pe_bm PySem.F.plainAttrs_list PySem.F.slot_list_append PySem.F.type_list_append mt_append (pv 3) (pa_cons (lam _ _ _ _ _ _ (lamS_by (by decide +kernel)) (fun A2 outer2 s2 H2 E2 f2 c2 hr2 => (pe_ce C_count_words (hr2.mono (by decide)) passLam (pa_cons (pv 1) (pa_cons (pv 2) (pa_cons pe_non (pa_cons pe_non pa_nil))))))) pa_nil)))
      (pss_cons (ps_expr (pe_bm PySem.F.plainAttrs_list PySem.F.slot_list_append PySem.F.type_list_append mt_append (pv 3) (pa_cons (lam _ _ _ _ _ _ (lamS_by (by decide +kernel)) (fun A2 outer2 s2 H2 E2 f2 c2 hr2 => (pe_ce C_count_words (hr2.mono (by decide)) passLam (pa_cons (pv 1) (pa_cons (pe_tup (pa_cons pe_int (pa_cons pe_int pa_nil))) (pa_cons (pv 2) (pa_cons pe_non pa_nil))))))) pa_nil)))
      (pss_cons (ps_expr (pe_bm PySem.F.plainAttrs_list PySem.F.slot_list_append PySem.F.type_list_append mt_append (pv 3) (pa_cons (lam _ _ _ _ _ _ (lamS_by (by decide +kernel)) (fun A2 outer2 s2 H2 E2 f2 c2 hr2 => (pe_ce C_count_words (hr2.mono (by decide)) passLam (pa_cons (pv 1) (pa_cons (pe_tup (pa_cons pe_int (pa_cons pe_int pa_nil))) (pa_cons (pv 2) (pa_cons pe_non pa_nil))))))) pa_nil)))
      (pss_cons (ps_expr (pe_bm PySem.F.plainAttrs_list PySem.F.slot_list_append PySem.F.type_list_append mt_append (pv 3) (pa_cons (lam _ _ _ _ _ _ (lamS_by (by decide +kernel)) (fun A2 outer2 s2 H2 E2 f2 c2 hr2 => (pe_ce C_count_words (hr2.mono (by decide)) passLam (pa_cons (pv 1) (pa_cons (pe_tup (pa_cons pe_int (pa_cons pe_int pa_nil))) (pa_cons (pe_tup (pa_cons pe_int (pa_cons pe_int pa_nil))) (pa_cons pe_non pa_nil))))))) pa_nil)))
      (pss_cons (ps_set (i := 4) sc__law_refused.nd rfl (Or.inl rfl) (pe_lst (pa_cons (pe_tup (pa_cons pe_str (pa_cons (pe_tup pa_nil) pa_nil))) (pa_cons (pe_tup (pa_cons pe_str (pa_cons (pv 2) pa_nil))) (pa_cons (pe_tup (pa_cons pe_str (pa_cons (pe_tup (pa_cons pe_int (pa_cons pe_int pa_nil))) pa_nil))) (pa_cons (pe_tup (pa_cons pe_str (pa_cons (pv 2) pa_nil))) (pa_cons (pe_tup (pa_cons pe_str (pa_cons (pe_tup (pa_cons pe_int (pa_cons pe_int pa_nil))) pa_nil))) pa_nil)))))))
      (pss_cons (ps_for PassesOwn.never rfl (pi_tup (pe_tup (pa_cons (pe_un un_neg pe_int) (pa_cons pe_int (pa_cons pe_bl (pa_cons pe_non (pa_cons pe_str pa_nil))))))) (pg_name (i := 5) sc__law_refused.nd rfl (Or.inr rfl))
      (pss_cons (ps_expr (pe_bm PySem.F.plainAttrs_list PySem.F.slot_list_append PySem.F.type_list_append mt_append (pv 3) (pa_cons (lam _ _ _ _ _ _ (lamS_by (by decide +kernel)) (fun A2 outer2 s2 H2 E2 f2 c2 hr2 => (pe_ce C_count_words (hr2.mono (by decide)) passLam (pa_cons (pv 1) (pa_cons (pe_tup (pa_cons pe_int (pa_cons pe_int pa_nil))) (pa_cons (pe_tup (pa_cons (pe_op op_pow pe_int pe_int) (pa_cons pe_int pa_nil))) (pa_cons (pv 5) pa_nil))))))) pa_nil)))
      (pss_one (ps_expr (pe_bm PySem.F.plainAttrs_list PySem.F.slot_list_append PySem.F.type_list_append mt_append (pv 4) (pa_cons (pe_tup (pa_cons pe_str (pa_cons (pv 5) pa_nil))) pa_nil))))))
      (pss_cons (ps_expr (pe_bm PySem.F.plainAttrs_list PySem.F.slot_list_append PySem.F.type_list_append mt_append (pv 3) (pa_cons (lam _ _ _ _ _ _ (lamS_by (by decide +kernel)) (fun A2 outer2 s2 H2 E2 f2 c2 hr2 => (pe_ce C_count_words (hr2.mono (by decide)) passLam (pa_cons (pv 1) (pa_cons (pe_tup (pa_cons pe_int (pa_cons pe_int pa_nil))) (pa_cons (pe_tup (pa_cons pe_int (pa_cons pe_int pa_nil))) (pa_cons pe_int pa_nil))))))) pa_nil)))
      (pss_cons (ps_expr (pe_bm PySem.F.plainAttrs_list PySem.F.slot_list_append PySem.F.type_list_append mt_append (pv 3) (pa_cons (lam _ _ _ _ _ _ (lamS_by (by decide +kernel)) (fun A2 outer2 s2 H2 E2 f2 c2 hr2 => (pe_ce C_count_words (hr2.mono (by decide)) passLam (pa_cons (pv 1) (pa_cons (pe_tup (pa_cons pe_int (pa_cons pe_int pa_nil))) (pa_cons (pe_tup (pa_cons pe_int (pa_cons pe_int pa_nil))) (pa_cons pe_int pa_nil))))))) pa_nil)))
      (pss_one (ps_ret (pe_ceG C__law_like3 (hr.mono (by decide)) hgd pass0 (pa_cons (pv 3) (pa_cons (pe_op op_cat (pv 4) (pe_lst (pa_cons (pe_tup (pa_cons pe_str (pa_cons pe_int pa_nil))) (pa_cons (pe_lst (pa_cons pe_int pa_nil)) pa_nil)))) pa_nil)))))))))))))))), ?_⟩
    refine ⟨_, rfl, N, pd, pl, _, rfl, W1.live, W1.st, by omega, fun vt ss J0 c1 S1 dt n1 n3 hw => ?_⟩
    have W1 := W1.chg c1 S1
    clear c1 S1
    have C : Cho ss 2 := ⟨n1, by omega, hw, by decide⟩
    obtain ⟨bs, lbs, hbs⟩ := ismax_ex hw
    obtain ⟨B, hB⟩ : ∃ B, IsMax ss B := ⟨_, bs, lbs, hbs, rfl⟩
    have B63 := max_small hB hw
    refine ⟨_, rfl, (by show 2 ≤ sizeLine; decide), fun a1 ma1 => ?_⟩
    have y1 := same_new (o := .tup [V.int 1, V.int 0]) ma1
    have da1 : Dp K (cut N (upd J0 a1 (.tup [V.int 1, V.int 0]))) (.ref a1) (nD (1, 0)) := new_tup W1.live ma1 dp_two
    have W1 := W1.same y1
    have dt := dp_ex dt y1
    generalize upd J0 a1 (.tup [V.int 1, V.int 0]) = J1 at W1 dt da1 ⊢
    clear y1 ma1
    refine ⟨(by show 2 ≤ sizeLine; decide), fun a2 ma2 => ?_⟩
    have y1 := same_new (o := .tup [V.int 2, V.int 2]) ma2
    have da2 : Dp K (cut N (upd J1 a2 (.tup [V.int 2, V.int 2]))) (.ref a2) (nD (2, 2)) := new_tup W1.live ma2 dp_two
    have W1 := W1.same y1
    have dt := dp_ex dt y1
    have da1 := dp_ex da1 y1
    generalize upd J1 a2 (.tup [V.int 2, V.int 2]) = J2 at W1 dt da1 da2 ⊢
    clear y1 ma2
    refine ⟨(by show 2 ≤ sizeLine; decide), fun a3 ma3 => ?_⟩
    have y1 := same_new (o := .tup [V.bl true, V.int 1]) ma3
    have da3 : Dp K (cut N (upd J2 a3 (.tup [V.bl true, V.int 1]))) (.ref a3) (.tuple [.bool true, .int 1]) := new_tup W1.live ma3 (.cons (.bl _) (.cons (.int _) .nil))
    have W1 := W1.same y1
    have dt := dp_ex dt y1
    have da1 := dp_ex da1 y1
    have da2 := dp_ex da2 y1
    generalize upd J2 a3 (.tup [V.bl true, V.int 1]) = J3 at W1 dt da1 da2 da3 ⊢
    clear y1 ma3
    refine ⟨_, _, rfl, rfl, ⟨by decide, by decide, by decide⟩, _, _, rfl, rfl, (by show 2 ≤ sizeLine; decide), fun a4 ma4 => ?_⟩
    have y1 := same_new (o := .tup [V.int ((10 : Int) ^ (60 : Int).toNat + 1), V.int 1]) ma4
    have da4 : Dp K (cut N (upd J3 a4 (.tup [V.int ((10 : Int) ^ (60 : Int).toNat + 1), V.int 1]))) (.ref a4) (nD (10 ^ 60 + 1, 1)) := new_tup W1.live ma4 dp_two
    have W1 := W1.same y1
    have dt := dp_ex dt y1
    have da1 := dp_ex da1 y1
    have da2 := dp_ex da2 y1
    have da3 := dp_ex da3 y1
    generalize upd J3 a4 (.tup [V.int ((10 : Int) ^ (60 : Int).toNat + 1), V.int 1]) = J4 at W1 dt da1 da2 da3 da4 ⊢
    clear y1 ma4
    refine ⟨(by show 5 ≤ sizeLine; decide), fun lo mlo => ?_⟩
    have y1 := same_new (o := .lst [V.non, V.ref a1, V.ref a2, V.ref a3, V.ref a4]) mlo
    have dlo : Dp K (cut N (upd J4 lo (.lst [V.non, V.ref a1, V.ref a2, V.ref a3, V.ref a4]))) (.ref lo) (.list oddsF) := new_lst W1.live mlo (.cons .non (.cons da1 (.cons da2 (.cons da3 (.cons da4 .nil)))))
    have W1 := W1.same y1
    have dt := dp_ex dt y1
    have da1 := dp_ex da1 y1
    have da2 := dp_ex da2 y1
    have da3 := dp_ex da3 y1
    have da4 := dp_ex da4 y1
    generalize upd J4 lo (.lst [V.non, V.ref a1, V.ref a2, V.ref a3, V.ref a4]) = J5 at W1 dt da1 da2 da3 da4 dlo ⊢
    clear y1 mlo
    clear da1
    clear da2
    clear da3
    clear da4
    obtain ⟨a9, xs1, ea1, hS1, hD1⟩ := dlo.lstI
    cases ea1
    have lx1 := hD1.length
    refine ⟨N, pd, pl, lo, _, xs1, rfl, W1.live, W1.st, by omega, hS1, (by rw [lx1]; decide), (by rw [lx1]; decide), fun vo J6 hvo c4 S4 => ?_⟩
    obtain ⟨od, hod, dv⟩ := dp_mem (hD1.ext (c4.cut W1.st.md W1.st.ml)) hvo
    obtain ⟨no, sho⟩ := oddsF_no hod
    clear hS1 hD1 dlo
    have dt := dt.ext (c4.cut W1.st.md W1.st.ml)
    have W1 := W1.chg c4 S4
    clear c4 S4
    obtain ⟨mm, W1⟩ : ∃ mm, Wt K (TK PP) pd pl N J6 mm := ⟨_, W1⟩
    have i12 : intOut (nD (1, 2)) = some .par := by decide +kernel
    have i13 : intOut (nD (1, 3)) = some .par := by decide +kernel
    have i01 : intOut (nD (0, 1)) = none := by decide +kernel
    have i51 : intOut (nD (5, 1)) = none := by decide +kernel
    have i91 : intOut (nD ((10 : Int) ^ (9 : Int).toNat, 1)) = none := by decide +kernel
    have iK1 : intOut (nD (1000, 1)) = none := by decide +kernel
    have i99 : intOut (nD (999, 1)) = none := by decide +kernel
    refine ⟨W1.tb, fun Ha eN T1 => ⟨N, .er .row (.tuple []), (W1.extN eN T1).live, fun E2 R Hb s2 kx => ?_, fun v3 Hd s3 h3 => ?_⟩⟩
    · have lb := ((W1.extN eN T1).same s2).live
      have SS := Same.refl Hb
      have dt := dp_next dt eN s2
      have dv := dp_next dv eN s2
      refine ⟨(by show 0 ≤ sizeLine; exact Nat.zero_le _), fun q0 mq0 => ?_⟩
      have y1 := same_new (o := .tup []) mq0
      have dq0 : Dp K (cut N (upd Hb q0 (.tup []))) (.ref q0) (.tuple []) := new_tup lb mq0 .nil
      have lb := lb.same y1
      have SS := SS.trans y1
      have dt := dp_ex dt y1
      have dv := dp_ex dv y1
      generalize upd Hb q0 (.tup []) = J501 at lb SS dt dv dq0 ⊢
      clear y1 mq0
      exact ⟨N, .ref q0, .non, .non, .non, .none, .none, .none, rfl, lb, .non, .non, .non, .inl ⟨.tuple [], .tuple [], dq0, by rfl, kx.later SS⟩⟩
    refine ⟨(by show 1 ≤ sizeLine; decide), fun g1 nt => ?_⟩
    have Wd' := (W1.extN eN T1).same s3
    have G1 := Gr.newT Wd' nt (.cons h3 .nil)
    have dt := dp_push (dp_next dt eN s3) nt (.lst [v3])
    have dv := dp_push (dp_next dv eN s3) nt (.lst [v3])
    have W1 := Wd'.push (xs := [v3]) nt
    generalize upd Hd g1 (.lst [v3]) = J7 at W1 G1 dt dv ⊢
    clear Wd' h3 s3 eN T1 nt
    generalize hNN8 : g1 :: N = N8 at W1 G1 dt dv
    obtain ⟨acc, ea, _⟩ := G1.ex
    have la := G1.len ea
    refine ⟨_, rfl, .inl ⟨rfl, _, .inl (.inl ea)⟩, W1.tb, fun Ha eN T1 => ⟨N8, .er .num od, (W1.extN eN T1).live, fun E2 R Hb s2 kx => ?_, fun v3 Hd s3 h3 => ?_⟩⟩
    · have lb := ((W1.extN eN T1).same s2).live
      have SS := Same.refl Hb
      have dt := dp_next dt eN s2
      have dv := dp_next dv eN s2
      refine ⟨_, rfl, _, rfl, ?_⟩
      exact ⟨N8, vt, vo, .non, .non, od, .none, .none, rfl, lb, dv, .non, .non, .inr ⟨ss, 2, B, dt, C, hB, by omega, fun e he => (by rw [no] at he; cases he; exact kx.later SS), fun h => (by rw [no] at h; cases h)⟩⟩
    obtain ⟨e', W', G', kp⟩ := step_toldT W1 G1 ea eN T1 s3 h3
    refine ⟨g1, acc, v3, rfl, rfl, e', by rw [la, sizeLine_eq]; simp, ?_⟩
    have dt := kp dt
    have dv := kp dv
    have W1 := W'
    have G1 := G'
    clear W' G' kp e'
    generalize upd Hd g1 (.lst (acc ++ [v3])) = J9 at W1 G1 dt dv ⊢
    clear h3 s3 eN T1 ea la
    obtain ⟨acc, ea, _⟩ := G1.ex
    have la := G1.len ea
    refine ⟨_, rfl, .inl ⟨rfl, _, .inl (.inl ea)⟩, W1.tb, fun Ha eN T1 => ⟨N8, .er .par (nD (1, 2)), (W1.extN eN T1).live, fun E2 R Hb s2 kx => ?_, fun v3 Hd s3 h3 => ?_⟩⟩
    · have lb := ((W1.extN eN T1).same s2).live
      have SS := Same.refl Hb
      have dt := dp_next dt eN s2
      have dv := dp_next dv eN s2
      refine ⟨_, rfl, (by show 2 ≤ sizeLine; decide), fun q1 mq1 => ?_⟩
      have y1 := same_new (o := .tup [V.int 1, V.int 2]) mq1
      have dq1 : Dp K (cut N8 (upd Hb q1 (.tup [V.int 1, V.int 2]))) (.ref q1) (nD (1, 2)) := new_tup lb mq1 dp_two
      have lb := lb.same y1
      have SS := SS.trans y1
      have dt := dp_ex dt y1
      have dv := dp_ex dv y1
      generalize upd Hb q1 (.tup [V.int 1, V.int 2]) = J501 at lb SS dt dv dq1 ⊢
      clear y1 mq1
      refine ⟨_, rfl, ?_⟩
      exact ⟨N8, vt, .ref q1, vo, .non, nD (1, 2), od, .none, rfl, lb, dq1, dv, .non, .inr ⟨ss, 2, B, dt, C, hB, by omega, fun e he => (by rw [i12] at he; cases he; exact kx.later SS), fun h => (by rw [i12] at h; cases h)⟩⟩
    obtain ⟨e', W', G', kp⟩ := step_toldT W1 G1 ea eN T1 s3 h3
    refine ⟨g1, acc, v3, rfl, rfl, e', by rw [la, sizeLine_eq]; simp, ?_⟩
    have dt := kp dt
    have dv := kp dv
    have W1 := W'
    have G1 := G'
    clear W' G' kp e'
    generalize upd Hd g1 (.lst (acc ++ [v3])) = J10 at W1 G1 dt dv ⊢
    clear h3 s3 eN T1 ea la
    obtain ⟨acc, ea, _⟩ := G1.ex
    have la := G1.len ea
    refine ⟨_, rfl, .inl ⟨rfl, _, .inl (.inl ea)⟩, W1.tb, fun Ha eN T1 => ⟨N8, .er .num od, (W1.extN eN T1).live, fun E2 R Hb s2 kx => ?_, fun v3 Hd s3 h3 => ?_⟩⟩
    · have lb := ((W1.extN eN T1).same s2).live
      have SS := Same.refl Hb
      have dt := dp_next dt eN s2
      have dv := dp_next dv eN s2
      refine ⟨_, rfl, (by show 2 ≤ sizeLine; decide), fun q1 mq1 => ?_⟩
      have y1 := same_new (o := .tup [V.int 0, V.int 1]) mq1
      have dq1 : Dp K (cut N8 (upd Hb q1 (.tup [V.int 0, V.int 1]))) (.ref q1) (nD (0, 1)) := new_tup lb mq1 dp_two
      have lb := lb.same y1
      have SS := SS.trans y1
      have dt := dp_ex dt y1
      have dv := dp_ex dv y1
      generalize upd Hb q1 (.tup [V.int 0, V.int 1]) = J501 at lb SS dt dv dq1 ⊢
      clear y1 mq1
      refine ⟨_, rfl, ?_⟩
      exact ⟨N8, vt, .ref q1, vo, .non, nD (0, 1), od, .none, rfl, lb, dq1, dv, .non, .inr ⟨ss, 2, B, dt, C, hB, by omega, fun e he => (by rw [i01] at he; cases he), fun _ => ⟨fun e he => (by rw [no] at he; cases he; exact kx.later SS), fun h => (by rw [no] at h; cases h)⟩⟩⟩
    obtain ⟨e', W', G', kp⟩ := step_toldT W1 G1 ea eN T1 s3 h3
    refine ⟨g1, acc, v3, rfl, rfl, e', by rw [la, sizeLine_eq]; simp, ?_⟩
    have dt := kp dt
    have dv := kp dv
    have W1 := W'
    have G1 := G'
    clear W' G' kp e'
    generalize upd Hd g1 (.lst (acc ++ [v3])) = J11 at W1 G1 dt dv ⊢
    clear h3 s3 eN T1 ea la
    obtain ⟨acc, ea, _⟩ := G1.ex
    have la := G1.len ea
    refine ⟨_, rfl, .inl ⟨rfl, _, .inl (.inl ea)⟩, W1.tb, fun Ha eN T1 => ⟨N8, .er .par (nD (1, 3)), (W1.extN eN T1).live, fun E2 R Hb s2 kx => ?_, fun v3 Hd s3 h3 => ?_⟩⟩
    · have lb := ((W1.extN eN T1).same s2).live
      have SS := Same.refl Hb
      have dt := dp_next dt eN s2
      have dv := dp_next dv eN s2
      refine ⟨_, rfl, (by show 2 ≤ sizeLine; decide), fun q1 mq1 => ?_⟩
      have y1 := same_new (o := .tup [V.int 0, V.int 1]) mq1
      have dq1 : Dp K (cut N8 (upd Hb q1 (.tup [V.int 0, V.int 1]))) (.ref q1) (nD (0, 1)) := new_tup lb mq1 dp_two
      have lb := lb.same y1
      have SS := SS.trans y1
      have dt := dp_ex dt y1
      have dv := dp_ex dv y1
      generalize upd Hb q1 (.tup [V.int 0, V.int 1]) = J501 at lb SS dt dv dq1 ⊢
      clear y1 mq1
      refine ⟨(by show 2 ≤ sizeLine; decide), fun q2 mq2 => ?_⟩
      have y1 := same_new (o := .tup [V.int 1, V.int 3]) mq2
      have dq2 : Dp K (cut N8 (upd J501 q2 (.tup [V.int 1, V.int 3]))) (.ref q2) (nD (1, 3)) := new_tup lb mq2 dp_two
      have lb := lb.same y1
      have SS := SS.trans y1
      have dt := dp_ex dt y1
      have dv := dp_ex dv y1
      have dq1 := dp_ex dq1 y1
      generalize upd J501 q2 (.tup [V.int 1, V.int 3]) = J502 at lb SS dt dv dq1 dq2 ⊢
      clear y1 mq2
      exact ⟨N8, vt, .ref q1, .ref q2, .non, nD (0, 1), nD (1, 3), .none, rfl, lb, dq1, dq2, .non, .inr ⟨ss, 2, B, dt, C, hB, by omega, fun e he => (by rw [i01] at he; cases he), fun _ => ⟨fun e he => (by rw [i13] at he; cases he; exact kx.later SS), fun h => (by rw [i13] at h; cases h)⟩⟩⟩
    obtain ⟨e', W', G', kp⟩ := step_toldT W1 G1 ea eN T1 s3 h3
    refine ⟨g1, acc, v3, rfl, rfl, e', by rw [la, sizeLine_eq]; simp, ?_⟩
    have dt := kp dt
    have dv := kp dv
    have W1 := W'
    have G1 := G'
    clear W' G' kp e'
    generalize upd Hd g1 (.lst (acc ++ [v3])) = J12 at W1 G1 dt dv ⊢
    clear h3 s3 eN T1 ea la
    have G1 : Gr K pl N8 J12 g1 ([wordD (.er .row (.tuple [])), wordD (.er .num od), wordD (.er .par (nD (1, 2))), wordD (.er .num od), wordD (.er .par (nD (1, 3)))]) := G1
    refine ⟨(by show 0 ≤ sizeLine; exact Nat.zero_le _), fun e0 me0 => ?_⟩
    have y1 := same_new (o := .tup []) me0
    have de0 : Dp K (cut N8 (upd J12 e0 (.tup []))) (.ref e0) (.tuple []) := new_tup W1.live me0 .nil
    have W1 := W1.same y1
    have G1 := G1.same y1
    have dt := dp_ex dt y1
    have dv := dp_ex dv y1
    generalize upd J12 e0 (.tup []) = J13 at W1 G1 dt dv de0 ⊢
    clear y1 me0
    refine ⟨(by show 2 ≤ sizeLine; decide), fun t1 mt1 => ?_⟩
    have y1 := same_new (o := .tup [V.str "row", V.ref e0]) mt1
    have dt1 : Dp K (cut N8 (upd J13 t1 (.tup [V.str "row", V.ref e0]))) (.ref t1) (wordD (.er .row (.tuple []))) := new_tup W1.live mt1 (.cons (.str _) (.cons de0 .nil))
    have W1 := W1.same y1
    have G1 := G1.same y1
    have dt := dp_ex dt y1
    have dv := dp_ex dv y1
    have de0 := dp_ex de0 y1
    generalize upd J13 t1 (.tup [V.str "row", V.ref e0]) = J14 at W1 G1 dt dv de0 dt1 ⊢
    clear y1 mt1
    refine ⟨_, rfl, (by show 2 ≤ sizeLine; decide), fun t2 mt2 => ?_⟩
    have y1 := same_new (o := .tup [V.str "number", vo]) mt2
    have dt2 : Dp K (cut N8 (upd J14 t2 (.tup [V.str "number", vo]))) (.ref t2) (wordD (.er .num od)) := new_tup W1.live mt2 (.cons (.str _) (.cons dv .nil))
    have W1 := W1.same y1
    have G1 := G1.same y1
    have dt := dp_ex dt y1
    have dv := dp_ex dv y1
    have de0 := dp_ex de0 y1
    have dt1 := dp_ex dt1 y1
    generalize upd J14 t2 (.tup [V.str "number", vo]) = J15 at W1 G1 dt dv de0 dt1 dt2 ⊢
    clear y1 mt2
    refine ⟨(by show 2 ≤ sizeLine; decide), fun e3 me3 => ?_⟩
    have y1 := same_new (o := .tup [V.int 1, V.int 2]) me3
    have de3 : Dp K (cut N8 (upd J15 e3 (.tup [V.int 1, V.int 2]))) (.ref e3) (nD (1, 2)) := new_tup W1.live me3 dp_two
    have W1 := W1.same y1
    have G1 := G1.same y1
    have dt := dp_ex dt y1
    have dv := dp_ex dv y1
    have de0 := dp_ex de0 y1
    have dt1 := dp_ex dt1 y1
    have dt2 := dp_ex dt2 y1
    generalize upd J15 e3 (.tup [V.int 1, V.int 2]) = J16 at W1 G1 dt dv de0 dt1 dt2 de3 ⊢
    clear y1 me3
    refine ⟨(by show 2 ≤ sizeLine; decide), fun t3 mt3 => ?_⟩
    have y1 := same_new (o := .tup [V.str "parameter", V.ref e3]) mt3
    have dt3 : Dp K (cut N8 (upd J16 t3 (.tup [V.str "parameter", V.ref e3]))) (.ref t3) (wordD (.er .par (nD (1, 2)))) := new_tup W1.live mt3 (.cons (.str _) (.cons de3 .nil))
    have W1 := W1.same y1
    have G1 := G1.same y1
    have dt := dp_ex dt y1
    have dv := dp_ex dv y1
    have de0 := dp_ex de0 y1
    have dt1 := dp_ex dt1 y1
    have dt2 := dp_ex dt2 y1
    have de3 := dp_ex de3 y1
    generalize upd J16 t3 (.tup [V.str "parameter", V.ref e3]) = J17 at W1 G1 dt dv de0 dt1 dt2 de3 dt3 ⊢
    clear y1 mt3
    refine ⟨_, rfl, (by show 2 ≤ sizeLine; decide), fun t4 mt4 => ?_⟩
    have y1 := same_new (o := .tup [V.str "number", vo]) mt4
    have dt4 : Dp K (cut N8 (upd J17 t4 (.tup [V.str "number", vo]))) (.ref t4) (wordD (.er .num od)) := new_tup W1.live mt4 (.cons (.str _) (.cons dv .nil))
    have W1 := W1.same y1
    have G1 := G1.same y1
    have dt := dp_ex dt y1
    have dv := dp_ex dv y1
    have de0 := dp_ex de0 y1
    have dt1 := dp_ex dt1 y1
    have dt2 := dp_ex dt2 y1
    have de3 := dp_ex de3 y1
    have dt3 := dp_ex dt3 y1
    generalize upd J17 t4 (.tup [V.str "number", vo]) = J18 at W1 G1 dt dv de0 dt1 dt2 de3 dt3 dt4 ⊢
    clear y1 mt4
    refine ⟨(by show 2 ≤ sizeLine; decide), fun e5 me5 => ?_⟩
    have y1 := same_new (o := .tup [V.int 1, V.int 3]) me5
    have de5 : Dp K (cut N8 (upd J18 e5 (.tup [V.int 1, V.int 3]))) (.ref e5) (nD (1, 3)) := new_tup W1.live me5 dp_two
    have W1 := W1.same y1
    have G1 := G1.same y1
    have dt := dp_ex dt y1
    have dv := dp_ex dv y1
    have de0 := dp_ex de0 y1
    have dt1 := dp_ex dt1 y1
    have dt2 := dp_ex dt2 y1
    have de3 := dp_ex de3 y1
    have dt3 := dp_ex dt3 y1
    have dt4 := dp_ex dt4 y1
    generalize upd J18 e5 (.tup [V.int 1, V.int 3]) = J19 at W1 G1 dt dv de0 dt1 dt2 de3 dt3 dt4 de5 ⊢
    clear y1 me5
    refine ⟨(by show 2 ≤ sizeLine; decide), fun t5 mt5 => ?_⟩
    have y1 := same_new (o := .tup [V.str "parameter", V.ref e5]) mt5
    have dt5 : Dp K (cut N8 (upd J19 t5 (.tup [V.str "parameter", V.ref e5]))) (.ref t5) (wordD (.er .par (nD (1, 3)))) := new_tup W1.live mt5 (.cons (.str _) (.cons de5 .nil))
    have W1 := W1.same y1
    have G1 := G1.same y1
    have dt := dp_ex dt y1
    have dv := dp_ex dv y1
    have de0 := dp_ex de0 y1
    have dt1 := dp_ex dt1 y1
    have dt2 := dp_ex dt2 y1
    have de3 := dp_ex de3 y1
    have dt3 := dp_ex dt3 y1
    have dt4 := dp_ex dt4 y1
    have de5 := dp_ex de5 y1
    generalize upd J19 t5 (.tup [V.str "parameter", V.ref e5]) = J20 at W1 G1 dt dv de0 dt1 dt2 de3 dt3 dt4 de5 dt5 ⊢
    clear y1 mt5
    clear de0
    clear de3
    clear de5
    refine ⟨(by show 5 ≤ sizeLine; decide), fun du mdu => ?_⟩
    have G2 : Gr K pl (du :: N8) (upd J20 du (.lst [V.ref t1, V.ref t2, V.ref t3, V.ref t4, V.ref t5])) du ([wordD (.er .row (.tuple [])), wordD (.er .num od), wordD (.er .par (nD (1, 2))), wordD (.er .num od), wordD (.er .par (nD (1, 3)))]) := Gr.newT W1 mdu (.cons dt1 (.cons dt2 (.cons dt3 (.cons dt4 (.cons dt5 .nil)))))
    have ndg : du ≠ g1 := fun z => by
      obtain ⟨ac, ea, _⟩ := G1.ex
      rw [z, ea] at mdu
      cases mdu
    have G1 := G1.push (o := .lst [V.ref t1, V.ref t2, V.ref t3, V.ref t4, V.ref t5]) mdu
    clear dt1
    clear dt2
    clear dt3
    clear dt4
    clear dt5
    have dt := dp_push dt mdu (.lst [V.ref t1, V.ref t2, V.ref t3, V.ref t4, V.ref t5])
    have dv := dp_push dv mdu (.lst [V.ref t1, V.ref t2, V.ref t3, V.ref t4, V.ref t5])
    have W1 := W1.push (xs := [V.ref t1, V.ref t2, V.ref t3, V.ref t4, V.ref t5]) mdu
    generalize upd J20 du (.lst [V.ref t1, V.ref t2, V.ref t3, V.ref t4, V.ref t5]) = J21 at W1 G1 dt dv G2 ⊢
    clear mdu
    generalize hN9 : du :: N8 = N9 at W1 G1 dt dv G2
    refine ⟨_, rfl, (by show 5 ≤ sizeLine; decide), fun pf mpf => ?_⟩
    have y1 := same_new (o := .tup [V.int (-1), V.int 61, V.bl true, V.non, V.str "2"]) mpf
    have dpf : Dp K (cut N9 (upd J21 pf (.tup [V.int (-1), V.int 61, V.bl true, V.non, V.str "2"]))) (.ref pf) (.tuple sizesD) := new_tup W1.live mpf (.cons (.int _) (.cons (.int _) (.cons (.bl _) (.cons .non (.cons (.str _) .nil)))))
    have W1 := W1.same y1
    have G1 := G1.same y1
    have dt := dp_ex dt y1
    have dv := dp_ex dv y1
    have G2 := G2.same y1
    generalize upd J21 pf (.tup [V.int (-1), V.int 61, V.bl true, V.non, V.str "2"]) = J22 at W1 G1 dt dv dpf G2 ⊢
    clear y1 mpf
    obtain ⟨pf', xs, epf, hpf0, hxs⟩ := dpf.tupI
    cases epf
    have exs := sizes_xs hxs
    subst exs
    have sz0 : sizesD.length = 5 := rfl
    refine ⟨pf, rfl, ⟨_, seq_un hpf0⟩, for_tup (K := K) (a := pf) (xs := [V.int (-1), V.int 61, V.bl true, V.non, V.str "2"]) (fun i σ H' => (∃ o5, σ = [some (.ref pd), some vt, some vo, some (.ref g1), some (.ref du), o5]) ∧ Wt K (TK PP) pd pl N9 H' mm ∧ Gr K pl N9 H' g1 ([wordD (.er .row (.tuple [])), wordD (.er .num od), wordD (.er .par (nD (1, 2))), wordD (.er .num od), wordD (.er .par (nD (1, 3)))] ++ szs i) ∧ Gr K pl N9 H' du ([wordD (.er .row (.tuple [])), wordD (.er .num od), wordD (.er .par (nD (1, 2))), wordD (.er .num od), wordD (.er .par (nD (1, 3)))] ++ szs i) ∧ Dp K (cut N9 H') vt (rowD ss) ∧ Dp K (cut N9 H') vo od ∧ Dp K (cut N9 H') (.ref pf) (.tuple sizesD)) ⟨⟨_, rfl⟩, W1, G1, G2, dt, dv, dpf⟩ (fun i σ H' _ h => ?_) ?_ ?_⟩
    · obtain ⟨_, _, _, _, _, _, dpf⟩ := h
      obtain ⟨pf', xs, epf, hpf0, hxs⟩ := dpf.tupI
      cases epf
      rw [sizes_xs hxs] at hpf0
      exact seq_un hpf0
    · rintro i z σ HL hz ⟨⟨o5, rfl⟩, W1, G1, G2, dt, dv, dpf⟩
      obtain ⟨pf', xs, epf, hpf0, hxs⟩ := dpf.tupI
      cases epf
      rw [sizes_xs hxs] at hxs
      obtain ⟨dz, hdz, dsz⟩ := hxs.get' hz
      have i5 : i < 5 := (List.getElem?_eq_some_iff.mp hz).1
      obtain ⟨nz, shz⟩ := sizesD_no (List.mem_of_getElem? hdz)
      clear hpf0 hxs
      obtain ⟨acc, ea, _⟩ := G1.ex
      have la := G1.len ea
      refine ⟨_, rfl, .inl ⟨rfl, _, .inl (.inl ea)⟩, W1.tb, fun Ha eN T1 => ⟨N9, .er .par dz, (W1.extN eN T1).live, fun E2 R Hb s2 kx => ?_, fun v3 Hd s3 h3 => ?_⟩⟩
      · have lb := ((W1.extN eN T1).same s2).live
        have SS := Same.refl Hb
        have dt := dp_next dt eN s2
        have dv := dp_next dv eN s2
        have dsz := dp_next dsz eN s2
        refine ⟨_, rfl, (by show 2 ≤ sizeLine; decide), fun q1 mq1 => ?_⟩
        have y1 := same_new (o := .tup [V.int 0, V.int 1]) mq1
        have dq1 : Dp K (cut N9 (upd Hb q1 (.tup [V.int 0, V.int 1]))) (.ref q1) (nD (0, 1)) := new_tup lb mq1 dp_two
        have lb := lb.same y1
        have SS := SS.trans y1
        have dt := dp_ex dt y1
        have dv := dp_ex dv y1
        have dsz := dp_ex dsz y1
        generalize upd Hb q1 (.tup [V.int 0, V.int 1]) = J501 at lb SS dt dv dsz dq1 ⊢
        clear y1 mq1
        refine ⟨_, _, rfl, rfl, (by show CPow 10 9; exact ⟨by decide, by decide, by decide⟩), (by show 2 ≤ sizeLine; decide), fun q2 mq2 => ?_⟩
        have y1 := same_new (o := .tup [V.int ((10 : Int) ^ (9 : Int).toNat), V.int 1]) mq2
        have dq2 : Dp K (cut N9 (upd J501 q2 (.tup [V.int ((10 : Int) ^ (9 : Int).toNat), V.int 1]))) (.ref q2) (nD (((10 : Int) ^ (9 : Int).toNat), 1)) := new_tup lb mq2 dp_two
        have lb := lb.same y1
        have SS := SS.trans y1
        have dt := dp_ex dt y1
        have dv := dp_ex dv y1
        have dsz := dp_ex dsz y1
        have dq1 := dp_ex dq1 y1
        generalize upd J501 q2 (.tup [V.int ((10 : Int) ^ (9 : Int).toNat), V.int 1]) = J502 at lb SS dt dv dsz dq1 dq2 ⊢
        clear y1 mq2
        refine ⟨_, rfl, ?_⟩
        exact ⟨N9, vt, .ref q1, .ref q2, z, nD (0, 1), nD ((10 : Int) ^ (9 : Int).toNat, 1), dz, rfl, lb, dq1, dq2, dsz, .inr ⟨ss, 2, B, dt, C, hB, by omega, fun e he => (by rw [i01] at he; cases he), fun _ => ⟨fun e he => (by rw [i91] at he; cases he), fun _ x y e1 e2 => ⟨fun _ => kx.later SS, fun n hn => (by rw [nz] at hn; cases hn)⟩⟩⟩⟩
      obtain ⟨e', W', G', kp⟩ := step_toldT W1 G1 ea eN T1 s3 h3
      have G2 := ((G2.extN eN).same s3).other (xs := acc ++ [v3]) ((G1.extN eN).same s3) ndg
      refine ⟨g1, acc, v3, rfl, rfl, e', by rw [la, sizeLine_eq, List.length_append, szs_len i5]; show 5 + i < _; omega, ?_⟩
      have dt := kp dt
      have dv := kp dv
      have dpf := kp dpf
      have dsz := kp dsz
      have W1 := W'
      have G1 := G'
      clear W' G' kp e'
      generalize upd Hd g1 (.lst (acc ++ [v3])) = J301 at W1 G1 dt dv dpf dsz G2 ⊢
      clear h3 s3 eN T1 ea la
      obtain ⟨ac2, ea2, _⟩ := G2.ex
      have la2 := G2.len ea2
      refine ⟨_, rfl, .inl ⟨rfl, _, .inl (.inl ea2)⟩, _, rfl, (by show 2 ≤ sizeLine; decide), fun tt mtt => ?_⟩
      have y1 := same_new (o := .tup [V.str "parameter", z]) mtt
      have dtt : Dp K (cut N9 (upd J301 tt (.tup [V.str "parameter", z]))) (.ref tt) (wordD (.er .par dz)) := new_tup W1.live mtt (.cons (.str _) (.cons dsz .nil))
      have ea2 := y1 _ _ ea2
      have W1 := W1.same y1
      have G1 := G1.same y1
      have dt := dp_ex dt y1
      have dv := dp_ex dv y1
      have dpf := dp_ex dpf y1
      have dsz := dp_ex dsz y1
      have G2 := G2.same y1
      generalize upd J301 tt (.tup [V.str "parameter", z]) = J302 at W1 G1 dt dv dpf dsz G2 dtt ea2 ⊢
      clear y1 mtt
      refine ⟨du, ac2, _, rfl, rfl, ea2, by rw [la2, sizeLine_eq, List.length_append, szs_len i5]; show 5 + i < _; omega, ⟨_, rfl⟩, ?_, ?_, ?_, ?_, ?_, ?_⟩
      · exact W1.set G2.mem ea2 G2.npl
      · rw [szs_next hdz, ← List.append_assoc]
        exact G1.other G2 (Ne.symm ndg)
      · rw [szs_next hdz, ← List.append_assoc]
        exact G2.app ea2 dtt
      · rw [cut_upd G2.mem]; exact dt
      · rw [cut_upd G2.mem]; exact dv
      · rw [cut_upd G2.mem]; exact dpf
    · rintro σ HL ⟨⟨o5, rfl⟩, W1, G1, G2, dt, dv, dpf⟩
      have l5 : (szs [V.int (-1), V.int 61, V.bl true, V.non, V.str "2"].length).length = 5 := rfl
      clear dpf
      obtain ⟨acc, ea, _⟩ := G1.ex
      have la := G1.len ea
      refine ⟨_, rfl, .inl ⟨rfl, _, .inl (.inl ea)⟩, W1.tb, fun Ha eN T1 => ⟨N9, .er .grt (.int 2000), (W1.extN eN T1).live, fun E2 R Hb s2 kx => ?_, fun v3 Hd s3 h3 => ?_⟩⟩
      · have lb := ((W1.extN eN T1).same s2).live
        have SS := Same.refl Hb
        have dt := dp_next dt eN s2
        have dv := dp_next dv eN s2
        refine ⟨_, rfl, (by show 2 ≤ sizeLine; decide), fun q1 mq1 => ?_⟩
        have y1 := same_new (o := .tup [V.int 0, V.int 1]) mq1
        have dq1 : Dp K (cut N9 (upd Hb q1 (.tup [V.int 0, V.int 1]))) (.ref q1) (nD (0, 1)) := new_tup lb mq1 dp_two
        have lb := lb.same y1
        have SS := SS.trans y1
        have dt := dp_ex dt y1
        have dv := dp_ex dv y1
        generalize upd Hb q1 (.tup [V.int 0, V.int 1]) = J501 at lb SS dt dv dq1 ⊢
        clear y1 mq1
        refine ⟨(by show 2 ≤ sizeLine; decide), fun q2 mq2 => ?_⟩
        have y1 := same_new (o := .tup [V.int 1000, V.int 1]) mq2
        have dq2 : Dp K (cut N9 (upd J501 q2 (.tup [V.int 1000, V.int 1]))) (.ref q2) (nD (1000, 1)) := new_tup lb mq2 dp_two
        have lb := lb.same y1
        have SS := SS.trans y1
        have dt := dp_ex dt y1
        have dv := dp_ex dv y1
        have dq1 := dp_ex dq1 y1
        generalize upd J501 q2 (.tup [V.int 1000, V.int 1]) = J502 at lb SS dt dv dq1 dq2 ⊢
        clear y1 mq2
        exact ⟨N9, vt, .ref q1, .ref q2, .int 0, nD (0, 1), nD (1000, 1), .int 0, rfl, lb, dq1, dq2, .int _, .inr ⟨ss, 2, B, dt, C, hB, by omega, fun e he => (by rw [i01] at he; cases he), fun _ => ⟨fun e he => (by rw [iK1] at he; cases he), fun _ x y e1 e2 => ⟨fun h => (by cases h), fun n hn => (by cases e2; have := Nat.le_max_right B (1000 : Int).natAbs; exact ⟨by decide, fun _ => kx.later SS, fun h => absurd (Nat.le_trans (Nat.succ_le_succ (Nat.mul_le_mul_left 2 this)) h) (by decide)⟩)⟩⟩⟩⟩
      obtain ⟨e', W', G', kp⟩ := step_toldT W1 G1 ea eN T1 s3 h3
      have G2 := ((G2.extN eN).same s3).other (xs := acc ++ [v3]) ((G1.extN eN).same s3) ndg
      refine ⟨g1, acc, v3, rfl, rfl, e', by rw [la, sizeLine_eq, List.length_append, l5]; show 5 + 5 < _; omega, ?_⟩
      have dt := kp dt
      have dv := kp dv
      have W1 := W'
      have G1 := G'
      clear W' G' kp e'
      generalize upd Hd g1 (.lst (acc ++ [v3])) = J401 at W1 G1 dt dv G2 ⊢
      clear h3 s3 eN T1 ea la
      obtain ⟨acc, ea, _⟩ := G1.ex
      have la := G1.len ea
      refine ⟨_, rfl, .inl ⟨rfl, _, .inl (.inl ea)⟩, W1.tb, fun Ha eN T1 => ⟨N9, .ok (.int 0), (W1.extN eN T1).live, fun E2 R Hb s2 kx => ?_, fun v3 Hd s3 h3 => ?_⟩⟩
      · have lb := ((W1.extN eN T1).same s2).live
        have SS := Same.refl Hb
        have dt := dp_next dt eN s2
        have dv := dp_next dv eN s2
        refine ⟨_, rfl, (by show 2 ≤ sizeLine; decide), fun q1 mq1 => ?_⟩
        have y1 := same_new (o := .tup [V.int 5, V.int 1]) mq1
        have dq1 : Dp K (cut N9 (upd Hb q1 (.tup [V.int 5, V.int 1]))) (.ref q1) (nD (5, 1)) := new_tup lb mq1 dp_two
        have lb := lb.same y1
        have SS := SS.trans y1
        have dt := dp_ex dt y1
        have dv := dp_ex dv y1
        generalize upd Hb q1 (.tup [V.int 5, V.int 1]) = J501 at lb SS dt dv dq1 ⊢
        clear y1 mq1
        refine ⟨(by show 2 ≤ sizeLine; decide), fun q2 mq2 => ?_⟩
        have y1 := same_new (o := .tup [V.int 999, V.int 1]) mq2
        have dq2 : Dp K (cut N9 (upd J501 q2 (.tup [V.int 999, V.int 1]))) (.ref q2) (nD (999, 1)) := new_tup lb mq2 dp_two
        have lb := lb.same y1
        have SS := SS.trans y1
        have dt := dp_ex dt y1
        have dv := dp_ex dv y1
        have dq1 := dp_ex dq1 y1
        generalize upd J501 q2 (.tup [V.int 999, V.int 1]) = J502 at lb SS dt dv dq1 dq2 ⊢
        clear y1 mq2
        exact ⟨N9, vt, .ref q1, .ref q2, .int 0, nD (5, 1), nD (999, 1), .int 0, rfl, lb, dq1, dq2, .int _, .inr ⟨ss, 2, B, dt, C, hB, by omega, fun e he => (by rw [i51] at he; cases he), fun _ => ⟨fun e he => (by rw [i99] at he; cases he), fun _ x y e1 e2 => ⟨fun h => (by cases h), fun n hn => (by cases e1; cases e2; cases hn; have m9 : Nat.max B (999 : Int).natAbs = 999 := Nat.max_eq_right (by show B ≤ 999; omega); exact ⟨by decide, fun h => absurd h (by rw [m9]; decide), fun _ H' s' => by rw [m9]; show R (V.int (((endsW 999 (fol ss) 5 0).count 999 : Nat) : Int)) H'; rw [cnt99]; exact kx _ _ (SS.trans s') (.int _)⟩)⟩⟩⟩⟩
      obtain ⟨e', W', G', kp⟩ := step_toldT W1 G1 ea eN T1 s3 h3
      have G2 := ((G2.extN eN).same s3).other (xs := acc ++ [v3]) ((G1.extN eN).same s3) ndg
      refine ⟨g1, acc, v3, rfl, rfl, e', by rw [la, sizeLine_eq, List.length_append, List.length_append, l5]; show 5 + 5 + 1 < _; omega, ?_⟩
      have dt := kp dt
      have dv := kp dv
      have W1 := W'
      have G1 := G'
      clear W' G' kp e'
      generalize upd Hd g1 (.lst (acc ++ [v3])) = J402 at W1 G1 dt dv G2 ⊢
      clear h3 s3 eN T1 ea la
      refine ⟨_, rfl, _, rfl, (by show 2 ≤ sizeLine; decide), fun u1 mu1 => ?_⟩
      have y1 := same_new (o := .tup [V.str "great", V.int 2000]) mu1
      have du1 : Dp K (cut N9 (upd J402 u1 (.tup [V.str "great", V.int 2000]))) (.ref u1) (wordD (.er .grt (.int 2000))) := new_tup W1.live mu1 (.cons (.str _) (.cons (.int _) .nil))
      have W1 := W1.same y1
      have G1 := G1.same y1
      have dt := dp_ex dt y1
      have dv := dp_ex dv y1
      have G2 := G2.same y1
      generalize upd J402 u1 (.tup [V.str "great", V.int 2000]) = J403 at W1 G1 dt dv du1 G2 ⊢
      clear y1 mu1
      refine ⟨(by show 1 ≤ sizeLine; decide), fun u2 mu2 => ?_⟩
      have y1 := same_new (o := .lst [V.int 0]) mu2
      have du2 : Dp K (cut N9 (upd J403 u2 (.lst [V.int 0]))) (.ref u2) (wordD (.ok (.int 0))) := new_lst W1.live mu2 (.cons (.int _) .nil)
      have W1 := W1.same y1
      have G1 := G1.same y1
      have dt := dp_ex dt y1
      have dv := dp_ex dv y1
      have du1 := dp_ex du1 y1
      have G2 := G2.same y1
      generalize upd J403 u2 (.lst [V.int 0]) = J404 at W1 G1 dt dv du1 du2 G2 ⊢
      clear y1 mu2
      refine ⟨(by show 2 ≤ sizeLine; decide), fun u3 mu3 => ?_⟩
      have y1 := same_new (o := .lst [V.ref u1, V.ref u2]) mu3
      have W1 := W1.same y1
      have G1 := G1.same y1
      have dt := dp_ex dt y1
      have dv := dp_ex dv y1
      have du1 := dp_ex du1 y1
      have du2 := dp_ex du2 y1
      have G2 := G2.same y1
      have cu3 : (upd J404 u3 (.lst [V.ref u1, V.ref u2])) u3 = some (.lst [V.ref u1, V.ref u2]) := upd_same
      generalize upd J404 u3 (.lst [V.ref u1, V.ref u2]) = J405 at W1 G1 dt dv du1 du2 cu3 G2 ⊢
      clear y1 mu3
      obtain ⟨ac2, ea2, dac⟩ := G2.ex
      have la2 := G2.len ea2
      refine ⟨du, u3, _, _, rfl, rfl, ea2, cu3, by rw [la2, List.length_append, l5]; show 5 + 5 + 2 ≤ sizeLine; decide, fun q nq => ?_⟩
      have dq := new_lst (K := K) (xs := ac2 ++ [V.ref u1, V.ref u2]) W1.live nq (dac.append (.cons du1 (.cons du2 .nil)))
      have y1 := same_new (o := .lst (ac2 ++ [V.ref u1, V.ref u2])) nq
      have G1 := G1.same y1
      have G1 : Gr K pl N9 (upd J405 q (.lst (ac2 ++ [V.ref u1, V.ref u2]))) g1 ([wordD (.er .row (.tuple [])), wordD (.er .num od), wordD (.er .par (nD (1, 2))), wordD (.er .num od), wordD (.er .par (nD (1, 3)))] ++ szs 5 ++ [wordD (.er .grt (.int 2000)), wordD (.ok (.int 0))]) := by
        have := G1
        rw [List.append_assoc] at this
        exact this
      have hsh : Sh 1000000 60 (.list ([wordD (.er .row (.tuple [])), wordD (.er .num od), wordD (.er .par (nD (1, 2))), wordD (.er .num od), wordD (.er .par (nD (1, 3)))] ++ szs 5 ++ [wordD (.er .grt (.int 2000)), wordD (.ok (.int 0))])) := by
        refine (sh_lst (n := 20000) (k := 3) (fun d hd => ?_)).mono (by show 12 * (20000 + 2) + 3 ≤ 1000000; decide) (by decide)
        have hn : ∀ d, Sh 4000 1 d → Sh 20000 3 (.tuple [.str "number", d]) := fun d h => (sh_tup (n := 4000) (k := 1) (ds := [.str "number", d]) fun u hu => by
          simp only [List.mem_cons, List.not_mem_nil, or_false] at hu
          rcases hu with z | z <;> rw [z]
          · exact sh_of (by decide +kernel)
          · exact h).mono (by show 2 * (4000 + 2) + 3 ≤ 20000; decide) (by decide)
        have hp : ∀ d, Sh 4000 1 d → Sh 20000 3 (.tuple [.str "parameter", d]) := fun d h => (sh_tup (n := 4000) (k := 1) (ds := [.str "parameter", d]) fun u hu => by
          simp only [List.mem_cons, List.not_mem_nil, or_false] at hu
          rcases hu with z | z <;> rw [z]
          · exact sh_of (by decide +kernel)
          · exact h).mono (by show 2 * (4000 + 2) + 3 ≤ 20000; decide) (by decide)
        rcases List.mem_append.mp hd with hd | hd
        · rcases List.mem_append.mp hd with hd | hd
          · simp only [List.mem_cons, List.not_mem_nil, or_false] at hd
            rcases hd with z | z | z | z | z <;> rw [z]
            · exact sh_of (by decide +kernel)
            · exact hn od sho
            · exact sh_of (by decide +kernel)
            · exact hn od sho
            · exact sh_of (by decide +kernel)
          · obtain ⟨dz, hz, rfl⟩ := List.mem_map.mp hd
            exact hp dz (sizesD_no (List.mem_of_mem_take hz)).2
        · simp only [List.mem_cons, List.not_mem_nil, or_false] at hd
          rcases hd with z | z <;> rw [z] <;> exact sh_of (by decide +kernel)
      exact ⟨.ref g1, .ref q, _, rfl, G1.dp, dq.un, hsh, rfl, k _⟩
end
end My

set_option Elab.async false
set_option linter.all false
set_option maxRecDepth 100000
set_option maxHeartbeats 8000000
set_option exponentiation.threshold 20000
namespace My
open PySem PySem.Spec PyProof.Rows L2 LamX
theorem least_of {P : Nat → Prop} [DecidablePred P] {b : Nat} (h1 : 1 ≤ b) (h2 : P b) (h3 : ∀ v ∈ List.range b, 1 ≤ v → ¬ P v) : Least P b := ⟨h1, h2, fun v a c => h3 v (List.mem_range.mpr c) a⟩
instance (s : List (Int × Int)) : DecidablePred (RchS s) := fun w => inferInstanceAs (Decidable (Reach _ _ _ w))
abbrev sqL : List (Int × Int) := [(0, 1), (0, 1), (1, 1)]
abbrev tuL : List (Int × Int) := [(0, 1), (0, 1), (-1, 1)]
theorem wsq : WS sqL 200 := ⟨by decide +kernel, by decide +kernel, by decide, by decide, by decide +kernel, by decide +kernel, by decide +kernel⟩
theorem wtu : WS tuL 200 := ⟨by decide +kernel, by decide +kernel, by decide, by decide, by decide +kernel, by decide +kernel, by decide +kernel⟩
theorem c1 : Cho [sqL, tuL] 200 := ⟨by decide, by decide, fun s hs => by
  simp only [List.mem_cons, List.not_mem_nil, or_false] at hs
  rcases hs with z | z <;> rw [z]
  · exact wsq
  · exact wtu, by decide⟩
theorem c2 : Cho [sqL] 200 := ⟨by decide, by decide, fun s hs => by rw [List.mem_singleton.mp hs]; exact wsq, by decide⟩
theorem m1 : IsMax [sqL, tuL] 1 := by
  refine ⟨[1, 1], rfl, fun i s b h1 h2 => ?_, rfl⟩
  match i, h1, h2 with
  | 0, h1, h2 => cases h1; cases h2; exact least_of (by decide) (by decide +kernel) (by decide +kernel)
  | 1, h1, h2 => cases h1; cases h2; exact least_of (by decide) (by decide +kernel) (by decide +kernel)
  | i + 2, h1, h2 => cases h2
theorem m2 : IsMax [sqL] 1 := by
  refine ⟨[1], rfl, fun i s b h1 h2 => ?_, rfl⟩
  match i, h1, h2 with
  | 0, h1, h2 => cases h1; cases h2; exact least_of (by decide) (by decide +kernel) (by decide +kernel)
  | i + 1, h1, h2 => cases h2
theorem one_ends : ∀ n : Nat, (endsA (fol [sqL, tuL]) 1 n).length = 2 ^ n ∧ (∀ z ∈ endsA (fol [sqL, tuL]) 1 n, z = 1 ∨ z = -1)
  | 0 => ⟨rfl, fun z hz => .inl (List.mem_singleton.mp hz)⟩
  | n + 1 => by
    obtain ⟨h1, h2⟩ := one_ends n
    have e : ∀ z ∈ endsA (fol [sqL, tuL]) 1 n, fol [sqL, tuL] z = [1, -1] := fun z hz => by
      rcases h2 z hz with c | c <;> rw [c] <;> decide +kernel
    show ((endsA (fol [sqL, tuL]) 1 n).flatMap (fol [sqL, tuL])).length = _ ∧ ∀ z ∈ (endsA (fol [sqL, tuL]) 1 n).flatMap (fol [sqL, tuL]), _
    have key : ∀ l : List Int, (∀ z ∈ l, fol [sqL, tuL] z = [1, -1]) → (l.flatMap (fol [sqL, tuL])).length = l.length * 2 ∧ ∀ z ∈ l.flatMap (fol [sqL, tuL]), z = 1 ∨ z = -1 := fun l => by
      induction l with
      | nil => exact fun _ => ⟨rfl, fun z hz => (nomatch hz)⟩
      | cons a l ih =>
        intro hl
        obtain ⟨g1, g2⟩ := ih fun z hz => hl z (List.mem_cons_of_mem _ hz)
        have ha := hl a List.mem_cons_self
        rw [List.flatMap_cons, ha]
        refine ⟨?_, fun z hz => ?_⟩
        · rw [List.length_append, g1]; show 2 + l.length * 2 = (l.length + 1) * 2; omega
        · rcases List.mem_append.mp hz with c | c
          · simp only [List.mem_cons, List.not_mem_nil, or_false] at c; exact c
          · exact g2 z c
    obtain ⟨k1, k2⟩ := key _ e
    exact ⟨by rw [k1, h1, Nat.pow_succ], k2⟩
theorem one_count (n : Nat) : (endsA (fol [sqL, tuL]) 1 (n + 1)).count 1 = 2 ^ n := by
  obtain ⟨h1, h2⟩ := one_ends n
  have e : ∀ z ∈ endsA (fol [sqL, tuL]) 1 n, fol [sqL, tuL] z = [1, -1] := fun z hz => by
    rcases h2 z hz with c | c <;> rw [c] <;> decide +kernel
  show ((endsA (fol [sqL, tuL]) 1 n).flatMap (fol [sqL, tuL])).count 1 = _
  rw [← h1]
  have key : ∀ l : List Int, (∀ z ∈ l, fol [sqL, tuL] z = [1, -1]) → (l.flatMap (fol [sqL, tuL])).count 1 = l.length := fun l => by
    induction l with
    | nil => exact fun _ => rfl
    | cons a l ih =>
      intro hl
      rw [List.flatMap_cons, hl a List.mem_cons_self, List.count_append, ih fun z hz => hl z (List.mem_cons_of_mem _ hz), List.length_cons]
      have : List.count (1 : Int) [1, -1] = 1 := by decide
      rw [this]
      omega
  exact key _ e
theorem nul_ends : ∀ n : Nat, endsA (fol [sqL]) 0 n = [0]
  | 0 => rfl
  | n + 1 => by
    show (endsA (fol [sqL]) 0 n).flatMap (fol [sqL]) = [0]
    rw [nul_ends n]
    decide +kernel
theorem f0 : (endsA (fol [sqL, tuL]) 1 60).count 1 = 2 ^ 59 := one_count 59
theorem f1 : (endsA (fol [sqL]) 0 60).count 0 = 1 := by rw [nul_ends]; rfl
theorem f2 : (endsW (Nat.max 1 (16 : Int).natAbs) (fol [sqL]) 2 2).count 16 = 1 := by decide +kernel
theorem sh_endC : Sh 1000000 60 (.list [.int (2 ^ 59 : Nat), .int 1, .int 1]) := sh_of (by decide +kernel)
theorem live_put {N : List Addr} {H : Hp} {q : Addr} {o : HO} (l : Live N H) : Live N (upd H q o) := fun b hb => by
  by_cases c : b = q
  · rw [c, upd_same]; simp
  · rw [upd_ne c]; exact l b hb
section
variable {P : Program} {w : World} {K : PySem.W.Frag} {mg : Str → Option Value} {base : Heap} {t1 t2 t3 : Tok} {f : Addr} {fd : FuncData} {ad : Ads} {PP : Addr}
theorem count_callW {N : List Addr} {v u1 u2 : V} {H : Hp} {Q : VK} {E : XK} {ss : List (List (Int × Int))} {t b n : Nat} {x y : Int} (l : Live N H) (hd : Dp K (cut N H) v (rowD ss)) (C : Cho ss t) (h1 : Dp K (cut N H) u1 (nD (x, 1))) (h2 : Dp K (cut N H) u2 (nD (y, 1))) (hB : IsMax ss b) (b9 : b ≤ 999) (x60 : x.natAbs ≤ 10 ^ 60) (y9 : y.natAbs ≤ 999) (n60 : n ≤ 60)
    (k : ∀ H', Same H H' → Q (.int ((endsW (Nat.max b y.natAbs) (fol ss) x n).count y : Nat)) H') : sp_count_words ad K [v, u1, u2, .int (n : Int)] H Q E := by
  refine ⟨N, v, u1, u2, _, _, _, .int (n : Int), rfl, l, h1, h2, .int _, .inr ⟨ss, t, b, hd, C, hB, by omega, fun e he => ?_, fun _ => ⟨fun e he => ?_, fun _ x' y' e1 e2 => ?_⟩⟩⟩
  · rw [show nD (x, 1) = .tuple [.int x, .int 1] from rfl, intOut_int x60] at he; cases he
  · rw [show nD (y, 1) = .tuple [.int y, .int 1] from rfl, intOut_int (Nat.le_trans y9 (by decide))] at he; cases he
  · cases e1
    cases e2
    have m : Nat.max b y.natAbs ≤ 999 := Nat.max_le.mpr ⟨b9, y9⟩
    have el : lenN (.int (n : Int)) = some n := by
      show (if 0 ≤ (n : Int) ∧ (n : Int) ≤ 60 then some (n : Int).toNat else none) = _
      rw [if_pos (by omega), Int.toNat_natCast]
    refine ⟨fun h => (by rw [el] at h; cases h), fun n' hn => ?_⟩
    rw [el] at hn
    cases hn
    have big : 2 * Nat.max b y.natAbs + 1 ≤ 2000 := Nat.le_trans (Nat.succ_le_succ (Nat.mul_le_mul_left 2 m)) (by decide)
    exact ⟨Nat.le_trans y9 (by decide), fun h => absurd h (Nat.not_lt.mpr big), fun _ => k⟩
def sp_law (K : PySem.W.Frag) (PP : Addr) : Sp := fun vs H Q _ => ∃ (a : Addr) (ns : List Int), vs = [.ref a] ∧ SqL K H a (ns.map V.int) ∧ ns.length ≤ 63 ∧ H PP = some (.tbl #[]) ∧ ∀ H', Q (.bl true) H'
theorem ok_law (F : Fun K "law" "law" s_law f fd) (T : Txt K mg t1 t2 t3) (C__law_begin : Ce P w K mg base CX0 1 "_law_begin" ["script"] (sp_law_begin K)) (C__law_right : CeG P w K mg base CX0 10 "_law_right" ["state"] (sp_law_right K)) (C__law_refused : CeG P w K mg base CX0 12 "_law_refused" ["state"] (sp_law_refused K PP))
    (C_count_words : Ce P w K mg base (L2.CX P w) 8 "count_words" ["steps", "start", "goal", "length"] (sp_count_words ad K)) (K_count_words : CeK P w K mg base (L2.CX P w) 8 "count_words" ["steps", "start", "goal", "length"] (sp_count_words ad K)) (C__law_like3 : CeG P w K mg base CX0 1 "_law_like" ["got", "due"] (sp_law_like3 K)) :
    FnG P w K mg base CX0 14 f fd ["script"] (sp_law K PP) := by
  refine fun_g F sc_law (fun vs H Q E h => ?_) (fun cdv A outer s H vs Q E hcdv hgd hr h => ?_)
  · obtain ⟨a, ns, rfl, _⟩ := h
    rfl
  · obtain ⟨a, ns, rfl, hS, hl, hP, k⟩ := h
    have hgd : (A.deeper (envOfC "law" (defScope s_law) s.heap.objs.size f cdv)).guards = some [] := hgd
    refine ⟨_, (pss_cons (ps_set (i := 1) sc_law.nd rfl (Or.inl rfl) (pe_ce C__law_begin (hr.mono (by decide)) pass0 (pa_cons (pv 0) pa_nil)))
      (pss_cons (ps_for PassesOwn.never rfl (pi_range1 rfl T.f_range (pa_cons pe_int pa_nil)) (pg_name (i := 2) sc_law.nd rfl (Or.inl rfl))
      (pss_one (ps_if (pt_not (pt_val (pe_ceG C__law_right (hr.mono (by decide)) hgd pass0 (pa_cons (pv 1) pa_nil)))) (pss_one (ps_ret pe_bl)) pss_nil)))
      (pss_cons (ps_if (pt_not (pt_val (pe_ceG C__law_refused (hr.mono (by decide)) hgd pass0 (pa_cons (pv 1) pa_nil)))) (pss_one (ps_ret pe_bl)) pss_nil)
      (pss_cons (ps_asg (pe_tup (pa_cons (pe_tup (pa_cons (pe_tup (pa_cons pe_int (pa_cons pe_int pa_nil))) (pa_cons (pe_tup (pa_cons pe_int (pa_cons pe_int pa_nil))) (pa_cons (pe_tup (pa_cons pe_int (pa_cons pe_int pa_nil))) pa_nil)))) (pa_cons (pe_tup (pa_cons (pe_tup (pa_cons pe_int (pa_cons pe_int pa_nil))) (pa_cons (pe_tup (pa_cons pe_int (pa_cons pe_int pa_nil))) (pa_cons (pe_tup (pa_cons (pe_un un_neg pe_int) (pa_cons pe_int pa_nil))) pa_nil)))) pa_nil))) (pg_tup rfl (pgs_cons (pg_name (i := 4) sc_law.nd rfl (Or.inl rfl)) (pgs_cons (pg_name (i := 5) sc_law.nd rfl (Or.inl rfl)) pgs_nil))))
      (pss_cons (ps_set (i := 3) sc_law.nd rfl (Or.inl rfl) (pe_lst (pa_cons (pe_ce C_count_words (hr.mono (by decide)) passL (pa_cons (pe_tup (pa_cons (pv 4) (pa_cons (pv 5) pa_nil))) (pa_cons (pe_tup (pa_cons pe_int (pa_cons pe_int pa_nil))) (pa_cons (pe_tup (pa_cons pe_int (pa_cons pe_int pa_nil))) (pa_cons pe_int pa_nil))))) pa_nil)))
      (pss_cons (ps_expr (pe_bm PySem.F.plainAttrs_list PySem.F.slot_list_append PySem.F.type_list_append mt_append (pv 3) (pa_cons (pe_ce C_count_words (hr.mono (by decide)) passL (pa_cons (pe_tup (pa_cons (pv 4) pa_nil)) (pa_cons (pe_tup (pa_cons pe_int (pa_cons pe_int pa_nil))) (pa_cons (pe_tup (pa_cons pe_int (pa_cons pe_int pa_nil))) (pa_cons pe_int pa_nil))))) pa_nil)))
      (pss_cons (ps_expr (pe_bm PySem.F.plainAttrs_list PySem.F.slot_list_append PySem.F.type_list_append mt_append (pv 3) (pa_cons (pe_ceK K_count_words (hr.mono (by decide)) passL (pk_cons (pe_tup (pa_cons (pv 4) pa_nil)) (pk_cons (pe_tup (pa_cons pe_int (pa_cons pe_int pa_nil))) (pk_cons (pe_tup (pa_cons pe_int (pa_cons pe_int pa_nil))) (pk_cons pe_int pk_nil))))) pa_nil)))
      (pss_one (ps_ret (pe_ceG C__law_like3 (hr.mono (by decide)) hgd pass0 (pa_cons (pv 3) (pa_cons (pe_lst (pa_cons (pe_op op_pow pe_int pe_int) (pa_cons pe_int (pa_cons pe_int pa_nil)))) pa_nil)))))))))))), ?_⟩
    have l0 : Live [PP] H := fun b hb => by
      rw [List.mem_singleton.mp hb, hP]; simp
    refine ⟨_, rfl, [PP], a, ns, rfl, l0, hS, hl, fun pd pl H1 s1 n1 n2 l1 S1 => ?_⟩
    have W1 : Wt K (TK PP) pd pl [pd, pl, PP] H1 0 := ⟨S1, fun p hp => by
      simp only [T2, List.mem_cons, List.not_mem_nil, or_false] at hp
      rw [hp]
      exact TabS.nil (s1 _ _ hP), .non, fun b hb => by
      obtain ⟨pc, cells, lefts, n, e1, e2, _⟩ := S1.ex
      simp only [List.mem_cons, List.not_mem_nil, or_false] at hb
      rcases hb with z | z | z <;> rw [z]
      · exact .inr ⟨_, e1, fun ps y => by cases y⟩
      · exact .inr ⟨_, e2, fun ps y => by cases y⟩
      · exact .inl ⟨_, List.mem_cons_self, rfl⟩⟩
    generalize [pd, pl, PP] = N at W1
    clear S1 l1 hP hS
    refine ⟨2, rfl, by decide, by decide, for_range (lo := 0) (n := 2) (fun i σ H' => (∃ o2, σ = [some (.ref a), some (.ref pd), o2, none, none, none]) ∧ Wt K (TK PP) pd pl N H' (60 * i)) ⟨⟨_, rfl⟩, W1⟩ ?_ ?_⟩
    · rintro i σ H3 hi ⟨⟨o2, rfl⟩, W3⟩
      refine ⟨_, rfl, N, pd, pl, _, rfl, W3.live, W3.st, by omega, fun H4 c4 S4 => ⟨_, rfl, iteF ?_⟩⟩
      exact ⟨⟨_, rfl⟩, (W3.chg c4 S4).more (by omega)⟩
    · rintro σ H3 ⟨⟨o2, rfl⟩, W1⟩
      refine ⟨_, rfl, N, pd, pl, _, rfl, W1, by omega, fun H4 => ⟨_, rfl, iteF ?_⟩⟩
      have l : Live [] H4 := fun b hb => (nomatch hb)
      refine ⟨(by show 2 ≤ sizeLine; decide), fun san0 msan0 => ?_⟩
      have y1 := same_new (o := .tup [V.int 0, V.int 1]) msan0
      have dsan0 : Dp K (cut [] (upd H4 san0 (.tup [V.int 0, V.int 1]))) (.ref san0) (nD (0, 1)) := new_tup l msan0 dp_two
      have l := l.same y1
      generalize upd H4 san0 (.tup [V.int 0, V.int 1]) = J1 at l dsan0 ⊢
      clear y1 msan0
      refine ⟨(by show 2 ≤ sizeLine; decide), fun san1 msan1 => ?_⟩
      have y1 := same_new (o := .tup [V.int 0, V.int 1]) msan1
      have dsan1 : Dp K (cut [] (upd J1 san1 (.tup [V.int 0, V.int 1]))) (.ref san1) (nD (0, 1)) := new_tup l msan1 dp_two
      have l := l.same y1
      have dsan0 := dp_ex dsan0 y1
      generalize upd J1 san1 (.tup [V.int 0, V.int 1]) = J2 at l dsan0 dsan1 ⊢
      clear y1 msan1
      refine ⟨(by show 2 ≤ sizeLine; decide), fun san2 msan2 => ?_⟩
      have y1 := same_new (o := .tup [V.int 1, V.int 1]) msan2
      have dsan2 : Dp K (cut [] (upd J2 san2 (.tup [V.int 1, V.int 1]))) (.ref san2) (nD (1, 1)) := new_tup l msan2 dp_two
      have l := l.same y1
      have dsan0 := dp_ex dsan0 y1
      have dsan1 := dp_ex dsan1 y1
      generalize upd J2 san2 (.tup [V.int 1, V.int 1]) = J3 at l dsan0 dsan1 dsan2 ⊢
      clear y1 msan2
      refine ⟨(by show 3 ≤ sizeLine; decide), fun sa msa => ?_⟩
      have y1 := same_new (o := .tup [V.ref san0, V.ref san1, V.ref san2]) msa
      have dsa : Dp K (cut [] (upd J3 sa (.tup [V.ref san0, V.ref san1, V.ref san2]))) (.ref sa) (sD [(0, 1), (0, 1), (1, 1)]) := new_tup l msa (.cons dsan0 (.cons dsan1 (.cons dsan2 .nil)))
      have l := l.same y1
      have dsan0 := dp_ex dsan0 y1
      have dsan1 := dp_ex dsan1 y1
      have dsan2 := dp_ex dsan2 y1
      generalize upd J3 sa (.tup [V.ref san0, V.ref san1, V.ref san2]) = J4 at l dsan0 dsan1 dsan2 dsa ⊢
      clear y1 msa
      clear dsan0
      clear dsan1
      clear dsan2
      refine ⟨(by show 2 ≤ sizeLine; decide), fun sbn0 msbn0 => ?_⟩
      have y1 := same_new (o := .tup [V.int 0, V.int 1]) msbn0
      have dsbn0 : Dp K (cut [] (upd J4 sbn0 (.tup [V.int 0, V.int 1]))) (.ref sbn0) (nD (0, 1)) := new_tup l msbn0 dp_two
      have l := l.same y1
      have dsa := dp_ex dsa y1
      generalize upd J4 sbn0 (.tup [V.int 0, V.int 1]) = J5 at l dsa dsbn0 ⊢
      clear y1 msbn0
      refine ⟨(by show 2 ≤ sizeLine; decide), fun sbn1 msbn1 => ?_⟩
      have y1 := same_new (o := .tup [V.int 0, V.int 1]) msbn1
      have dsbn1 : Dp K (cut [] (upd J5 sbn1 (.tup [V.int 0, V.int 1]))) (.ref sbn1) (nD (0, 1)) := new_tup l msbn1 dp_two
      have l := l.same y1
      have dsa := dp_ex dsa y1
      have dsbn0 := dp_ex dsbn0 y1
      generalize upd J5 sbn1 (.tup [V.int 0, V.int 1]) = J6 at l dsa dsbn0 dsbn1 ⊢
      clear y1 msbn1
      refine ⟨_, rfl, (by show 2 ≤ sizeLine; decide), fun sbn2 msbn2 => ?_⟩
      have y1 := same_new (o := .tup [V.int (-1), V.int 1]) msbn2
      have dsbn2 : Dp K (cut [] (upd J6 sbn2 (.tup [V.int (-1), V.int 1]))) (.ref sbn2) (nD (-1, 1)) := new_tup l msbn2 dp_two
      have l := l.same y1
      have dsa := dp_ex dsa y1
      have dsbn0 := dp_ex dsbn0 y1
      have dsbn1 := dp_ex dsbn1 y1
      generalize upd J6 sbn2 (.tup [V.int (-1), V.int 1]) = J7 at l dsa dsbn0 dsbn1 dsbn2 ⊢
      clear y1 msbn2
      refine ⟨(by show 3 ≤ sizeLine; decide), fun sb msb => ?_⟩
      have y1 := same_new (o := .tup [V.ref sbn0, V.ref sbn1, V.ref sbn2]) msb
      have dsb : Dp K (cut [] (upd J7 sb (.tup [V.ref sbn0, V.ref sbn1, V.ref sbn2]))) (.ref sb) (sD [(0, 1), (0, 1), (-1, 1)]) := new_tup l msb (.cons dsbn0 (.cons dsbn1 (.cons dsbn2 .nil)))
      have l := l.same y1
      have dsa := dp_ex dsa y1
      have dsbn0 := dp_ex dsbn0 y1
      have dsbn1 := dp_ex dsbn1 y1
      have dsbn2 := dp_ex dsbn2 y1
      generalize upd J7 sb (.tup [V.ref sbn0, V.ref sbn1, V.ref sbn2]) = J8 at l dsa dsbn0 dsbn1 dsbn2 dsb ⊢
      clear y1 msb
      clear dsbn0
      clear dsbn1
      clear dsbn2
      refine ⟨(by show 2 ≤ sizeLine; decide), fun pT mpT => ?_⟩
      have y1 := same_new (o := .tup [V.ref sa, V.ref sb]) mpT
      have l := l.same y1
      have dsa := dp_ex dsa y1
      have dsb := dp_ex dsb y1
      refine ⟨pT, _, rfl, .inl (.inl upd_same), rfl, _, _, rfl, _, _, rfl, rfl, ?_⟩
      generalize upd J8 pT (.tup [V.ref sa, V.ref sb]) = J9 at l dsa dsb ⊢
      clear y1 mpT
      refine ⟨_, rfl, _, rfl, (by show 2 ≤ sizeLine; decide), fun r0 mr0 => ?_⟩
      have y1 := same_new (o := .tup [V.ref sa, V.ref sb]) mr0
      have dr0 : Dp K (cut [] (upd J9 r0 (.tup [V.ref sa, V.ref sb]))) (.ref r0) (rowD [sqL, tuL]) := new_tup l mr0 (.cons dsa (.cons dsb .nil))
      have l := l.same y1
      have dsa := dp_ex dsa y1
      have dsb := dp_ex dsb y1
      generalize upd J9 r0 (.tup [V.ref sa, V.ref sb]) = J10 at l dsa dsb dr0 ⊢
      clear y1 mr0
      refine ⟨(by show 2 ≤ sizeLine; decide), fun p0 mp0 => ?_⟩
      have y1 := same_new (o := .tup [V.int 1, V.int 1]) mp0
      have dp0 : Dp K (cut [] (upd J10 p0 (.tup [V.int 1, V.int 1]))) (.ref p0) (nD (1, 1)) := new_tup l mp0 dp_two
      have l := l.same y1
      have dsa := dp_ex dsa y1
      have dsb := dp_ex dsb y1
      have dr0 := dp_ex dr0 y1
      generalize upd J10 p0 (.tup [V.int 1, V.int 1]) = J11 at l dsa dsb dr0 dp0 ⊢
      clear y1 mp0
      refine ⟨(by show 2 ≤ sizeLine; decide), fun q0 mq0 => ?_⟩
      have y1 := same_new (o := .tup [V.int 1, V.int 1]) mq0
      have dq0 : Dp K (cut [] (upd J11 q0 (.tup [V.int 1, V.int 1]))) (.ref q0) (nD (1, 1)) := new_tup l mq0 dp_two
      have l := l.same y1
      have dsa := dp_ex dsa y1
      have dsb := dp_ex dsb y1
      have dr0 := dp_ex dr0 y1
      have dp0 := dp_ex dp0 y1
      generalize upd J11 q0 (.tup [V.int 1, V.int 1]) = J12 at l dsa dsb dr0 dp0 dq0 ⊢
      clear y1 mq0
      refine count_call l dr0 c1 dp0 dq0 m1 (by decide) (by decide) (by decide) (n := 60) (by decide) fun J13 y1 => ?_
      clear dp0
      clear dq0
      clear dr0
      have l := l.same y1
      have dsa := dp_ex dsa y1
      have dsb := dp_ex dsb y1
      clear y1
      rw [f0]
      refine ⟨(by show 1 ≤ sizeLine; decide), fun gg mgg => ?_⟩
      have l := l.push mgg (.lst [V.int (2 ^ 59 : Nat)])
      have dsa := dp_push dsa mgg (.lst [V.int (2 ^ 59 : Nat)])
      have dsb := dp_push dsb mgg (.lst [V.int (2 ^ 59 : Nat)])
      have cgg : (upd J13 gg (.lst [V.int (2 ^ 59 : Nat)])) gg = some (.lst [V.int (2 ^ 59 : Nat)]) := upd_same
      generalize upd J13 gg (.lst [V.int (2 ^ 59 : Nat)]) = J14 at l dsa dsb cgg ⊢
      clear mgg
      have gN : gg ∈ [gg] := List.mem_cons_self
      generalize [gg] = N2 at l dsa dsb cgg gN
      refine ⟨_, rfl, .inl ⟨rfl, _, .inl (.inl cgg)⟩, ?_⟩
      refine ⟨_, rfl, (by show 1 ≤ sizeLine; decide), fun r1 mr1 => ?_⟩
      have y1 := same_new (o := .tup [V.ref sa]) mr1
      have dr1 : Dp K (cut N2 (upd J14 r1 (.tup [V.ref sa]))) (.ref r1) (rowD [sqL]) := new_tup l mr1 (.cons dsa .nil)
      have l := l.same y1
      have dsa := dp_ex dsa y1
      have dsb := dp_ex dsb y1
      have cgg := y1 _ _ cgg
      generalize upd J14 r1 (.tup [V.ref sa]) = J15 at l dsa dsb dr1 cgg ⊢
      clear y1 mr1
      refine ⟨(by show 2 ≤ sizeLine; decide), fun p1 mp1 => ?_⟩
      have y1 := same_new (o := .tup [V.int 0, V.int 1]) mp1
      have dp1 : Dp K (cut N2 (upd J15 p1 (.tup [V.int 0, V.int 1]))) (.ref p1) (nD (0, 1)) := new_tup l mp1 dp_two
      have l := l.same y1
      have dsa := dp_ex dsa y1
      have dsb := dp_ex dsb y1
      have dr1 := dp_ex dr1 y1
      have cgg := y1 _ _ cgg
      generalize upd J15 p1 (.tup [V.int 0, V.int 1]) = J16 at l dsa dsb dr1 dp1 cgg ⊢
      clear y1 mp1
      refine ⟨(by show 2 ≤ sizeLine; decide), fun q1 mq1 => ?_⟩
      have y1 := same_new (o := .tup [V.int 0, V.int 1]) mq1
      have dq1 : Dp K (cut N2 (upd J16 q1 (.tup [V.int 0, V.int 1]))) (.ref q1) (nD (0, 1)) := new_tup l mq1 dp_two
      have l := l.same y1
      have dsa := dp_ex dsa y1
      have dsb := dp_ex dsb y1
      have dr1 := dp_ex dr1 y1
      have dp1 := dp_ex dp1 y1
      have cgg := y1 _ _ cgg
      generalize upd J16 q1 (.tup [V.int 0, V.int 1]) = J17 at l dsa dsb dr1 dp1 dq1 cgg ⊢
      clear y1 mq1
      refine count_call l dr1 c2 dp1 dq1 m2 (by decide) (by decide) (by decide) (n := 60) (by decide) fun J18 y1 => ?_
      clear dr1
      clear dp1
      clear dq1
      have l := l.same y1
      have dsa := dp_ex dsa y1
      have dsb := dp_ex dsb y1
      have cgg := y1 _ _ cgg
      clear y1
      rw [f1]
      refine ⟨gg, _, _, rfl, rfl, cgg, by show 1 < sizeLine; decide, ?_⟩
      have l : Live N2 (upd J18 gg (.lst [V.int (2 ^ 59 : Nat), V.int ((1 : Nat) : Int)])) := live_put l
      have dsa := dp_putQ (o := .lst [V.int (2 ^ 59 : Nat), V.int ((1 : Nat) : Int)]) gN dsa
      have dsb := dp_putQ (o := .lst [V.int (2 ^ 59 : Nat), V.int ((1 : Nat) : Int)]) gN dsb
      have cgg : (upd J18 gg (.lst [V.int (2 ^ 59 : Nat), V.int ((1 : Nat) : Int)])) gg = some (.lst [V.int (2 ^ 59 : Nat), V.int ((1 : Nat) : Int)]) := upd_same
      have e1 : [V.int (2 ^ 59 : Nat)] ++ [V.int ((1 : Nat) : Int)] = [V.int (2 ^ 59 : Nat), V.int ((1 : Nat) : Int)] := rfl
      rw [e1]
      generalize upd J18 gg (.lst [V.int (2 ^ 59 : Nat), V.int ((1 : Nat) : Int)]) = J19 at l dsa dsb cgg ⊢
      clear e1
      refine ⟨_, rfl, .inl ⟨rfl, _, .inl (.inl cgg)⟩, ?_⟩
      refine ⟨_, rfl, (by show 1 ≤ sizeLine; decide), fun r2 mr2 => ?_⟩
      have y1 := same_new (o := .tup [V.ref sa]) mr2
      have dr2 : Dp K (cut N2 (upd J19 r2 (.tup [V.ref sa]))) (.ref r2) (rowD [sqL]) := new_tup l mr2 (.cons dsa .nil)
      have l := l.same y1
      have dsa := dp_ex dsa y1
      have dsb := dp_ex dsb y1
      have cgg := y1 _ _ cgg
      generalize upd J19 r2 (.tup [V.ref sa]) = J20 at l dsa dsb dr2 cgg ⊢
      clear y1 mr2
      refine ⟨(by show 2 ≤ sizeLine; decide), fun p2 mp2 => ?_⟩
      have y1 := same_new (o := .tup [V.int 2, V.int 1]) mp2
      have dp2 : Dp K (cut N2 (upd J20 p2 (.tup [V.int 2, V.int 1]))) (.ref p2) (nD (2, 1)) := new_tup l mp2 dp_two
      have l := l.same y1
      have dsa := dp_ex dsa y1
      have dsb := dp_ex dsb y1
      have dr2 := dp_ex dr2 y1
      have cgg := y1 _ _ cgg
      generalize upd J20 p2 (.tup [V.int 2, V.int 1]) = J21 at l dsa dsb dr2 dp2 cgg ⊢
      clear y1 mp2
      refine ⟨(by show 2 ≤ sizeLine; decide), fun q2 mq2 => ?_⟩
      have y1 := same_new (o := .tup [V.int 16, V.int 1]) mq2
      have dq2 : Dp K (cut N2 (upd J21 q2 (.tup [V.int 16, V.int 1]))) (.ref q2) (nD (16, 1)) := new_tup l mq2 dp_two
      have l := l.same y1
      have dsa := dp_ex dsa y1
      have dsb := dp_ex dsb y1
      have dr2 := dp_ex dr2 y1
      have dp2 := dp_ex dp2 y1
      have cgg := y1 _ _ cgg
      generalize upd J21 q2 (.tup [V.int 16, V.int 1]) = J22 at l dsa dsb dr2 dp2 dq2 cgg ⊢
      clear y1 mq2
      refine count_callW l dr2 c2 dp2 dq2 m2 (by decide) (by decide) (by decide) (n := 2) (by decide) fun J23 y1 => ?_
      clear dr2
      clear dp2
      clear dq2
      have l := l.same y1
      have dsa := dp_ex dsa y1
      have dsb := dp_ex dsb y1
      have cgg := y1 _ _ cgg
      clear y1
      rw [f2]
      refine ⟨gg, _, _, rfl, rfl, cgg, by show 2 < sizeLine; decide, ?_⟩
      have l : Live N2 (upd J23 gg (.lst [V.int (2 ^ 59 : Nat), V.int ((1 : Nat) : Int), V.int ((1 : Nat) : Int)])) := live_put l
      have dsa := dp_putQ (o := .lst [V.int (2 ^ 59 : Nat), V.int ((1 : Nat) : Int), V.int ((1 : Nat) : Int)]) gN dsa
      have dsb := dp_putQ (o := .lst [V.int (2 ^ 59 : Nat), V.int ((1 : Nat) : Int), V.int ((1 : Nat) : Int)]) gN dsb
      have cgg : (upd J23 gg (.lst [V.int (2 ^ 59 : Nat), V.int ((1 : Nat) : Int), V.int ((1 : Nat) : Int)])) gg = some (.lst [V.int (2 ^ 59 : Nat), V.int ((1 : Nat) : Int), V.int ((1 : Nat) : Int)]) := upd_same
      have e2 : [V.int (2 ^ 59 : Nat), V.int ((1 : Nat) : Int)] ++ [V.int ((1 : Nat) : Int)] = [V.int (2 ^ 59 : Nat), V.int ((1 : Nat) : Int), V.int ((1 : Nat) : Int)] := rfl
      rw [e2]
      generalize upd J23 gg (.lst [V.int (2 ^ 59 : Nat), V.int ((1 : Nat) : Int), V.int ((1 : Nat) : Int)]) = J24 at l dsa dsb cgg ⊢
      clear e2
      have dgg : Dp K J24 (.ref gg) (.list [.int (2 ^ 59 : Nat), .int 1, .int 1]) := .lst (.inl (.inl cgg)) (.cons (.int _) (.cons (.int _) (.cons (.int _) .nil)))
      clear cgg
      refine ⟨_, rfl, _, _, rfl, rfl, (by show CPow 2 59; exact ⟨by decide, by decide, by decide⟩), (by show 3 ≤ sizeLine; decide), fun pz nz => ?_⟩
      
      have s1 := same_new (o := .lst [V.int ((2 : Int) ^ (59 : Int).toNat), V.int 1, V.int 1]) nz
      refine ⟨.ref gg, .ref pz, _, rfl, dgg.ext s1, .lst (.inl (.inl upd_same)) (.cons ?_ (.cons (.int _) (.cons (.int _) .nil))), sh_endC, rfl, k _⟩
      have e59 : (2 : Int) ^ (59 : Int).toNat = ((2 ^ 59 : Nat) : Int) := by decide +kernel
      show Dp K _ (V.int ((2 : Int) ^ (59 : Int).toNat)) _
      rw [e59]
      exact .int _
end
end My

set_option Elab.async false
set_option linter.all false
set_option maxRecDepth 100000
set_option maxHeartbeats 4000000
set_option exponentiation.threshold 20000
namespace My
open PySem PySem.Spec PyProof.Rows L2 LamX

section
variable {P : Program} {w : World} {K : PySem.W.Frag} {mg : Str → Option Value} {base : Heap} {f : Addr} {fd : FuncData}
theorem ok_BadNumber_init (F : Fun K "__init__" "BadNumber.__init__" s_BadNumber_init f fd) : FnOk P w K mg base CX0 1 f fd ["self", "value"] (sp_init K "value") := by
  refine F.ok sc_BadNumber_init (fun vs H Q E h => ?_) (fun cdv A outer s H vs Q E hr h => ?_)
  · obtain ⟨a, C, v, rfl, _⟩ := h
    rfl
  · obtain ⟨a, C, v, rfl, oc, no, ha, k⟩ := h
    refine ⟨_, pss_one (ps_ost (pv 0) (pv 1)), ?_⟩
    refine ⟨_, rfl, _, rfl, a, C, rfl, oc, no, .inl ⟨ha, fun dx h1 h2 => k dx h1 h2⟩⟩
theorem ok_BadRow_init (F : Fun K "__init__" "BadRow.__init__" s_BadRow_init f fd) : FnOk P w K mg base CX0 1 f fd ["self", "place"] (sp_init K "place") := by
  refine F.ok sc_BadRow_init (fun vs H Q E h => ?_) (fun cdv A outer s H vs Q E hr h => ?_)
  · obtain ⟨a, C, v, rfl, _⟩ := h
    rfl
  · obtain ⟨a, C, v, rfl, oc, no, ha, k⟩ := h
    refine ⟨_, pss_one (ps_ost (pv 0) (pv 1)), ?_⟩
    refine ⟨_, rfl, _, rfl, a, C, rfl, oc, no, .inl ⟨ha, fun dx h1 h2 => k dx h1 h2⟩⟩
theorem ok_BadParameter_init (F : Fun K "__init__" "BadParameter.__init__" s_BadParameter_init f fd) : FnOk P w K mg base CX0 1 f fd ["self", "value"] (sp_init K "value") := by
  refine F.ok sc_BadParameter_init (fun vs H Q E h => ?_) (fun cdv A outer s H vs Q E hr h => ?_)
  · obtain ⟨a, C, v, rfl, _⟩ := h
    rfl
  · obtain ⟨a, C, v, rfl, oc, no, ha, k⟩ := h
    refine ⟨_, pss_one (ps_ost (pv 0) (pv 1)), ?_⟩
    refine ⟨_, rfl, _, rfl, a, C, rfl, oc, no, .inl ⟨ha, fun dx h1 h2 => k dx h1 h2⟩⟩
theorem ok_TooGreat_init (F : Fun K "__init__" "TooGreat.__init__" s_TooGreat_init f fd) : FnOk P w K mg base CX0 1 f fd ["self", "most"] (sp_init K "most") := by
  refine F.ok sc_TooGreat_init (fun vs H Q E h => ?_) (fun cdv A outer s H vs Q E hr h => ?_)
  · obtain ⟨a, C, v, rfl, _⟩ := h
    rfl
  · obtain ⟨a, C, v, rfl, oc, no, ha, k⟩ := h
    refine ⟨_, pss_one (ps_ost (pv 0) (pv 1)), ?_⟩
    refine ⟨_, rfl, _, rfl, a, C, rfl, oc, no, .inl ⟨ha, fun dx h1 h2 => k dx h1 h2⟩⟩
end
end My

set_option Elab.async false
set_option linter.all false
set_option maxRecDepth 100000
set_option maxHeartbeats 4000000
set_option exponentiation.threshold 20000
namespace My
open PySem PySem.Spec PyProof.Rows L2 LamX

section
variable {K : PySem.W.Frag} {C : Addr}
theorem oexB_ok (h : oexB K C = true) : OexC K C ∧ XfC K C := by
  unfold oexB at h
  rw [Bool.and_eq_true] at h
  obtain ⟨h1, h⟩ := h
  simp only [Bool.and_eq_true, decide_eq_true_eq] at h
  obtain ⟨h2, h3, h4, h5, h6, h7, h8⟩ := h
  refine ⟨⟨?_, h2, h5, h6, h7⟩, ⟨h3, h4, h5, h8⟩⟩
  split at h1
  case h_2 => cases h1
  case h_1 dd cd sl lk =>
    split at h1
    case h_2 => cases h1
    case h_1 C' bm a1 a2 a3 a4 n a5 e1 e2 =>
      simp only [Bool.and_eq_true, beq_iff_eq, Bool.not_eq_true'] at h1
      obtain ⟨rfl, rfl, d1, d2, hr⟩ := h1
      refine ⟨cd.name, cd.qualname, cd.ns, cd.bases, bm, cd.slotNames, cd.subclasses, cd.abstract, cd.collection, dd, a1, a2, a3, a4, a5, ?_, hr⟩
      rw [lk]
      obtain ⟨nm, bs, mro, ns, qn, hdc, sn, sub, ab, col, hdl⟩ := cd
      obtain ⟨sl⟩ := sl
      simp only at e1 d1 d2 e2
      subst e1 d1 d2 e2
      rfl
end
section
variable {K : PySem.W.Frag} {h : Heap} {mg : Str → Option Value}
theorem gm_ok {x : Str} {id : String} (X : K.In h) (G : h.Ns mainGlobals mg) (e : gmB K x id = true) : mg x = some (.builtin id) := by
  unfold gmB at e
  exact PySem.W.mg_of X G (of_decide_eq_true e)
end
theorem fun_kw {K : PySem.W.Frag} {x qual : Str} {st : Stmt} {f : Addr} {fd : FuncData} (F : Fun K x qual st f fd) {as : Args} {r : Sem (List (Str × Value))}
    (e : ∀ (kV doc pm : Value) (an : Option Addr) (cdv ct : Value), bindArgs (PySem.W.fnOf x qual (defArgs st) (defBody st) (defScope st) .none kV doc pm an cdv ct) as = r) : bindArgs fd as = r := by
  obtain ⟨oc, od, kV, doc, pm, an, cdv, ct, osl, rfl, _, _⟩ := F.ex
  exact e kV doc pm an cdv ct
abbrev adK (K : PySem.W.Frag) : Ads := ⟨He.ga K "BadNumber", He.ga K "BadStep", He.ga K "BadRow", He.ga K "BadParameter", He.ga K "TooGreat", He.ga K "NoRow", He.ga K "BadIndex", He.ga K "BadDeed", He.ga K "Unlike", He.ga K "NothingBack", He.ga K "StepError"⟩
section
variable {P : Program} {w : World} {K : PySem.W.Frag} {h : Heap} {mg : Str → Option Value} {fa : Addr}
theorem all_of (X : K.In h) (G : h.Ns mainGlobals mg) (hfa : mg "law" = some (.ref fa)) (c : He.SaysX fac fnd [] tfs extra w h K) :
    ∃ (fd : FuncData) (cs : List (Addr × Addr)), cs = [He.cT K ("_law_refused", none)] ∧ (∀ (s : Shared) (u : Value), BindsTo s fd ⟨[u], []⟩ [("script", u)]) ∧
      ∀ base : Heap, K.In base → base.Ns mainGlobals mg → (∀ p ∈ cs, TabB base mg p.1 p.2) → FnG P w K mg base CX0 14 fa fd ["script"] (sp_law K (He.cT K ("_law_refused", none)).2) := by
  have cd := c.t.d
  have m0 := c.more
  unfold extra at m0
  simp only [Bool.and_eq_true] at m0
  obtain ⟨mx, hap, mA_, mN_, mL_, mK_⟩ := m0
  unfold extraA at mA_
  simp only [Bool.and_eq_true, Bool.and_true] at mA_
  obtain ⟨t_GREATEST, g_GREATEST⟩ := He.int_ok X G (cd.fact 73 (f := .int "GREATEST" 1000000000000000000000000000000000000000000000000000000000000) rfl)
  obtain ⟨t_MOST_DEGREE, g_MOST_DEGREE⟩ := He.int_ok X G (cd.fact 74 (f := .int "MOST_DEGREE" 64) rfl)
  obtain ⟨t_MOST_STEPS, g_MOST_STEPS⟩ := He.int_ok X G (cd.fact 75 (f := .int "MOST_STEPS" 8) rfl)
  obtain ⟨t_MOST_LOOKED_AT, g_MOST_LOOKED_AT⟩ := He.int_ok X G (cd.fact 76 (f := .int "MOST_LOOKED_AT" 2000) rfl)
  obtain ⟨t_MOST_LENGTH, g_MOST_LENGTH⟩ := He.int_ok X G (cd.fact 77 (f := .int "MOST_LENGTH" 60) rfl)
  have T : Txt K mg t_GREATEST t_MOST_DEGREE t_MOST_STEPS := ⟨He.free_ok X G (cd.fact 49 (f := .free "len") rfl), He.free_ok X G (cd.fact 50 (f := .free "isinstance") rfl), He.free_ok X G (cd.fact 51 (f := .free "abs") rfl), He.free_ok X G (cd.fact 52 (f := .free "all") rfl), He.free_ok X G (cd.fact 53 (f := .free "tuple") rfl), He.free_ok X G (cd.fact 54 (f := .free "list") rfl), He.free_ok X G (cd.fact 55 (f := .free "int") rfl), He.free_ok X G (cd.fact 56 (f := .free "max") rfl), He.free_ok X G (cd.fact 57 (f := .free "repr") rfl), He.free_ok X G (cd.fact 58 (f := .free "range") rfl), He.free_ok X G (cd.fact 59 (f := .free "enumerate") rfl), He.free_ok X G (cd.fact 60 (f := .free "reversed") rfl), He.free_ok X G (cd.fact 61 (f := .free "bool") rfl), He.free_ok X G (cd.fact 62 (f := .free "ValueError") rfl), He.free_ok X G (cd.fact 63 (f := .free "sorted") rfl), He.free_ok X G (cd.fact 64 (f := .free "zip") rfl), He.free_ok X G (cd.fact 65 (f := .free "sum") rfl), He.free_ok X G (cd.fact 66 (f := .free "any") rfl), He.free_ok X G (cd.fact 67 (f := .free "divmod") rfl), He.free_ok X G (cd.fact 68 (f := .free "set") rfl), He.free_ok X G (cd.fact 69 (f := .free "dict") rfl), He.free_ok X G (cd.fact 70 (f := .free "min") rfl), He.free_ok X G (cd.fact 71 (f := .free "str") rfl), He.free_ok X G (cd.fact 72 (f := .free "pow") rfl), gm_ok X G mA_.1, gm_ok X G mA_.2, g_GREATEST, g_MOST_DEGREE, g_MOST_STEPS, ⟨_, g_MOST_LOOKED_AT⟩, ⟨_, g_MOST_LENGTH⟩⟩
  obtain ⟨fd_opened, D_opened⟩ := cd.def_ 0 rfl
  have F_opened : Fun K "opened" "opened" s_opened (He.ga K "opened") fd_opened := fun_ofD D_opened.kp D_opened
  have m_opened := (He.glo_ok X G (cd.fact 0 (f := .glo "opened") rfl))
  have b_opened : Binds K fd_opened ["numbers"] [] := F_opened.binds fun _ _ _ _ _ _ us hl => match us, hl with | [_], _ => rfl
  obtain ⟨fd_is_integer, D_is_integer⟩ := cd.def_ 1 rfl
  have F_is_integer : Fun K "is_integer" "is_integer" s_is_integer (He.ga K "is_integer") fd_is_integer := fun_ofD D_is_integer.kp D_is_integer
  have m_is_integer := (He.glo_ok X G (cd.fact 1 (f := .glo "is_integer") rfl))
  have b_is_integer : Binds K fd_is_integer ["value"] [] := F_is_integer.binds fun _ _ _ _ _ _ us hl => match us, hl with | [_], _ => rfl
  obtain ⟨fd_is_number, D_is_number⟩ := cd.def_ 2 rfl
  have F_is_number : Fun K "is_number" "is_number" s_is_number (He.ga K "is_number") fd_is_number := fun_ofD D_is_number.kp D_is_number
  have m_is_number := (He.glo_ok X G (cd.fact 2 (f := .glo "is_number") rfl))
  have b_is_number : Binds K fd_is_number ["value"] [] := F_is_number.binds fun _ _ _ _ _ _ us hl => match us, hl with | [_], _ => rfl
  obtain ⟨fd_is_step, D_is_step⟩ := cd.def_ 3 rfl
  have F_is_step : Fun K "is_step" "is_step" s_is_step (He.ga K "is_step") fd_is_step := fun_ofD D_is_step.kp D_is_step
  have m_is_step := (He.glo_ok X G (cd.fact 3 (f := .glo "is_step") rfl))
  have b_is_step : Binds K fd_is_step ["value"] [] := F_is_step.binds fun _ _ _ _ _ _ us hl => match us, hl with | [_], _ => rfl
  obtain ⟨fd_need_number, D_need_number⟩ := cd.def_ 4 rfl
  have F_need_number : Fun K "need_number" "need_number" s_need_number (He.ga K "need_number") fd_need_number := fun_ofD D_need_number.kp D_need_number
  have m_need_number := (He.glo_ok X G (cd.fact 4 (f := .glo "need_number") rfl))
  have b_need_number : Binds K fd_need_number ["value"] [] := F_need_number.binds fun _ _ _ _ _ _ us hl => match us, hl with | [_], _ => rfl
  obtain ⟨fd_need_row, D_need_row⟩ := cd.def_ 5 rfl
  have F_need_row : Fun K "need_row" "need_row" s_need_row (He.ga K "need_row") fd_need_row := fun_ofD D_need_row.kp D_need_row
  have m_need_row := (He.glo_ok X G (cd.fact 5 (f := .glo "need_row") rfl))
  have b_need_row : Binds K fd_need_row ["value"] [] := F_need_row.binds fun _ _ _ _ _ _ us hl => match us, hl with | [_], _ => rfl
  obtain ⟨fd_reaches, D_reaches⟩ := cd.def_ 6 rfl
  have F_reaches : Fun K "reaches" "reaches" s_reaches (He.ga K "reaches") fd_reaches := fun_ofD D_reaches.kp D_reaches
  have m_reaches := (He.glo_ok X G (cd.fact 6 (f := .glo "reaches") rfl))
  have b_reaches : Binds K fd_reaches ["sizes", "bottom", "bound"] [] := F_reaches.binds fun _ _ _ _ _ _ us hl => match us, hl with | [_, _, _], _ => rfl
  obtain ⟨fd_bound_of, D_bound_of⟩ := cd.def_ 7 rfl
  have F_bound_of : Fun K "bound_of" "bound_of" s_bound_of (He.ga K "bound_of") fd_bound_of := fun_ofD D_bound_of.kp D_bound_of
  have m_bound_of := (He.glo_ok X G (cd.fact 7 (f := .glo "bound_of") rfl))
  have b_bound_of : Binds K fd_bound_of ["step"] [] := F_bound_of.binds fun _ _ _ _ _ _ us hl => match us, hl with | [_], _ => rfl
  obtain ⟨fd_refuse_many, D_refuse_many⟩ := cd.def_ 8 rfl
  have F_refuse_many : Fun K "refuse_many" "refuse_many" s_refuse_many (He.ga K "refuse_many") fd_refuse_many := fun_ofD D_refuse_many.kp D_refuse_many
  have m_refuse_many := (He.glo_ok X G (cd.fact 8 (f := .glo "refuse_many") rfl))
  have b_refuse_many : Binds K fd_refuse_many ["bound"] [] := F_refuse_many.binds fun _ _ _ _ _ _ us hl => match us, hl with | [_], _ => rfl
  obtain ⟨fd_is_whole, D_is_whole⟩ := cd.def_ 9 rfl
  have F_is_whole : Fun K "is_whole" "is_whole" s_is_whole (He.ga K "is_whole") fd_is_whole := fun_ofD D_is_whole.kp D_is_whole
  have m_is_whole := (He.glo_ok X G (cd.fact 9 (f := .glo "is_whole") rfl))
  have b_is_whole : Binds K fd_is_whole ["step"] [] := F_is_whole.binds fun _ _ _ _ _ _ us hl => match us, hl with | [_], _ => rfl
  obtain ⟨fd_need_integer_number, D_need_integer_number⟩ := cd.def_ 10 rfl
  have F_need_integer_number : Fun K "need_integer_number" "need_integer_number" s_need_integer_number (He.ga K "need_integer_number") fd_need_integer_number := fun_ofD D_need_integer_number.kp D_need_integer_number
  have m_need_integer_number := (He.glo_ok X G (cd.fact 10 (f := .glo "need_integer_number") rfl))
  have b_need_integer_number : Binds K fd_need_integer_number ["value"] [] := F_need_integer_number.binds fun _ _ _ _ _ _ us hl => match us, hl with | [_], _ => rfl
  obtain ⟨fd_integers_of, D_integers_of⟩ := cd.def_ 11 rfl
  have F_integers_of : Fun K "integers_of" "integers_of" s_integers_of (He.ga K "integers_of") fd_integers_of := fun_ofD D_integers_of.kp D_integers_of
  have m_integers_of := (He.glo_ok X G (cd.fact 11 (f := .glo "integers_of") rfl))
  have b_integers_of : Binds K fd_integers_of ["step"] [] := F_integers_of.binds fun _ _ _ _ _ _ us hl => match us, hl with | [_], _ => rfl
  obtain ⟨fd_integer_at, D_integer_at⟩ := cd.def_ 12 rfl
  have F_integer_at : Fun K "integer_at" "integer_at" s_integer_at (He.ga K "integer_at") fd_integer_at := fun_ofD D_integer_at.kp D_integer_at
  have m_integer_at := (He.glo_ok X G (cd.fact 12 (f := .glo "integer_at") rfl))
  have b_integer_at : Binds K fd_integer_at ["tops", "number"] [] := F_integer_at.binds fun _ _ _ _ _ _ us hl => match us, hl with | [_, _], _ => rfl
  obtain ⟨fd_is_let, D_is_let⟩ := cd.def_ 13 rfl
  have F_is_let : Fun K "is_let" "is_let" s_is_let (He.ga K "is_let") fd_is_let := fun_ofD D_is_let.kp D_is_let
  have m_is_let := (He.glo_ok X G (cd.fact 13 (f := .glo "is_let") rfl))
  have b_is_let : Binds K fd_is_let ["step"] [] := F_is_let.binds fun _ _ _ _ _ _ us hl => match us, hl with | [_], _ => rfl
  obtain ⟨fd_need_choices, D_need_choices⟩ := cd.def_ 14 rfl
  have F_need_choices : Fun K "need_choices" "need_choices" s_need_choices (He.ga K "need_choices") fd_need_choices := fun_ofD D_need_choices.kp D_need_choices
  have m_need_choices := (He.glo_ok X G (cd.fact 14 (f := .glo "need_choices") rfl))
  have b_need_choices : Binds K fd_need_choices ["steps"] [] := F_need_choices.binds fun _ _ _ _ _ _ us hl => match us, hl with | [_], _ => rfl
  obtain ⟨fd_bound_of_all, D_bound_of_all⟩ := cd.def_ 15 rfl
  have F_bound_of_all : Fun K "bound_of_all" "bound_of_all" s_bound_of_all (He.ga K "bound_of_all") fd_bound_of_all := fun_ofD D_bound_of_all.kp D_bound_of_all
  have m_bound_of_all := (He.glo_ok X G (cd.fact 15 (f := .glo "bound_of_all") rfl))
  have b_bound_of_all : Binds K fd_bound_of_all ["steps"] [] := F_bound_of_all.binds fun _ _ _ _ _ _ us hl => match us, hl with | [_], _ => rfl
  obtain ⟨fd_need_goal, D_need_goal⟩ := cd.def_ 16 rfl
  have F_need_goal : Fun K "need_goal" "need_goal" s_need_goal (He.ga K "need_goal") fd_need_goal := fun_ofD D_need_goal.kp D_need_goal
  have m_need_goal := (He.glo_ok X G (cd.fact 16 (f := .glo "need_goal") rfl))
  have b_need_goal : Binds K fd_need_goal ["steps", "start", "goal"] [] := F_need_goal.binds fun _ _ _ _ _ _ us hl => match us, hl with | [_, _, _], _ => rfl
  obtain ⟨fd_most_to, D_most_to⟩ := cd.def_ 17 rfl
  have F_most_to : Fun K "most_to" "most_to" s_most_to (He.ga K "most_to") fd_most_to := fun_ofD D_most_to.kp D_most_to
  have m_most_to := (He.glo_ok X G (cd.fact 17 (f := .glo "most_to") rfl))
  have b_most_to : Binds K fd_most_to ["steps", "goal"] [] := F_most_to.binds fun _ _ _ _ _ _ us hl => match us, hl with | [_, _], _ => rfl
  obtain ⟨fd_followers_of, D_followers_of⟩ := cd.def_ 18 rfl
  have F_followers_of : Fun K "followers_of" "followers_of" s_followers_of (He.ga K "followers_of") fd_followers_of := fun_ofD D_followers_of.kp D_followers_of
  have m_followers_of := (He.glo_ok X G (cd.fact 18 (f := .glo "followers_of") rfl))
  have b_followers_of : Binds K fd_followers_of ["rows", "number", "most"] [] := F_followers_of.binds fun _ _ _ _ _ _ us hl => match us, hl with | [_, _, _], _ => rfl
  obtain ⟨fd_explored, D_explored⟩ := cd.def_ 19 rfl
  have F_explored : Fun K "explored" "explored" s_explored (He.ga K "explored") fd_explored := fun_ofD D_explored.kp D_explored
  have m_explored := (He.glo_ok X G (cd.fact 19 (f := .glo "explored") rfl))
  have b_explored : Binds K fd_explored ["steps", "start", "most"] [] := F_explored.binds fun _ _ _ _ _ _ us hl => match us, hl with | [_, _, _], _ => rfl
  obtain ⟨fd_word_in, D_word_in⟩ := cd.def_ 20 rfl
  have F_word_in : Fun K "word_in" "word_in" s_word_in (He.ga K "word_in") fd_word_in := fun_ofD D_word_in.kp D_word_in
  have m_word_in := (He.glo_ok X G (cd.fact 20 (f := .glo "word_in") rfl))
  have b_word_in : Binds K fd_word_in ["graph", "start", "goal"] [] := F_word_in.binds fun _ _ _ _ _ _ us hl => match us, hl with | [_, _, _], _ => rfl
  obtain ⟨fd_counted, D_counted⟩ := cd.def_ 21 rfl
  have F_counted : Fun K "counted" "counted" s_counted (He.ga K "counted") fd_counted := fun_ofD D_counted.kp D_counted
  have m_counted := (He.glo_ok X G (cd.fact 21 (f := .glo "counted") rfl))
  have b_counted : Binds K fd_counted ["graph", "start", "length"] [] := F_counted.binds fun _ _ _ _ _ _ us hl => match us, hl with | [_, _, _], _ => rfl
  obtain ⟨fd_reach, D_reach⟩ := cd.def_ 22 rfl
  have F_reach : Fun K "reach" "reach" s_reach (He.ga K "reach") fd_reach := fun_ofD D_reach.kp D_reach
  have m_reach := (He.glo_ok X G (cd.fact 22 (f := .glo "reach") rfl))
  have b_reach : Binds K fd_reach ["steps", "start", "goal"] [] := F_reach.binds fun _ _ _ _ _ _ us hl => match us, hl with | [_, _, _], _ => rfl
  obtain ⟨fd_count_words, D_count_words⟩ := cd.def_ 23 rfl
  have F_count_words : Fun K "count_words" "count_words" s_count_words (He.ga K "count_words") fd_count_words := fun_ofD D_count_words.kp D_count_words
  have m_count_words := (He.glo_ok X G (cd.fact 23 (f := .glo "count_words") rfl))
  have b_count_words : Binds K fd_count_words ["steps", "start", "goal", "length"] [] := F_count_words.binds fun _ _ _ _ _ _ us hl => match us, hl with | [_, _, _, _], _ => rfl
  obtain ⟨fd__law_mixed, D__law_mixed⟩ := cd.def_ 24 rfl
  have F__law_mixed : Fun K "_law_mixed" "_law_mixed" s__law_mixed (He.ga K "_law_mixed") fd__law_mixed := fun_ofD D__law_mixed.kp D__law_mixed
  have m__law_mixed := (He.glo_ok X G (cd.fact 24 (f := .glo "_law_mixed") rfl))
  have b__law_mixed : Binds K fd__law_mixed ["cell", "k"] [] := F__law_mixed.binds fun _ _ _ _ _ _ us hl => match us, hl with | [_, _], _ => rfl
  obtain ⟨fd__law_begin, D__law_begin⟩ := cd.def_ 25 rfl
  have F__law_begin : Fun K "_law_begin" "_law_begin" s__law_begin (He.ga K "_law_begin") fd__law_begin := fun_ofD D__law_begin.kp D__law_begin
  have m__law_begin := (He.glo_ok X G (cd.fact 25 (f := .glo "_law_begin") rfl))
  have b__law_begin : Binds K fd__law_begin ["script"] [] := F__law_begin.binds fun _ _ _ _ _ _ us hl => match us, hl with | [_], _ => rfl
  obtain ⟨fd__law_draw, D__law_draw⟩ := cd.def_ 26 rfl
  have F__law_draw : Fun K "_law_draw" "_law_draw" s__law_draw (He.ga K "_law_draw") fd__law_draw := fun_ofD D__law_draw.kp D__law_draw
  have m__law_draw := (He.glo_ok X G (cd.fact 26 (f := .glo "_law_draw") rfl))
  have b__law_draw : Binds K fd__law_draw ["state", "limit"] [] := F__law_draw.binds fun _ _ _ _ _ _ us hl => match us, hl with | [_, _], _ => rfl
  obtain ⟨fd__law_of, D__law_of⟩ := cd.def_ 27 rfl
  have F__law_of : Fun K "_law_of" "_law_of" s__law_of (He.ga K "_law_of") fd__law_of := fun_ofD D__law_of.kp D__law_of
  have m__law_of := (He.glo_ok X G (cd.fact 27 (f := .glo "_law_of") rfl))
  have b__law_of : Binds K fd__law_of ["state", "some"] [] := F__law_of.binds fun _ _ _ _ _ _ us hl => match us, hl with | [_, _], _ => rfl
  obtain ⟨fd__law_divisor, D__law_divisor⟩ := cd.def_ 28 rfl
  have F__law_divisor : Fun K "_law_divisor" "_law_divisor" s__law_divisor (He.ga K "_law_divisor") fd__law_divisor := fun_ofD D__law_divisor.kp D__law_divisor
  have m__law_divisor := (He.glo_ok X G (cd.fact 28 (f := .glo "_law_divisor") rfl))
  have b__law_divisor : Binds K fd__law_divisor ["one", "other"] [] := F__law_divisor.binds fun _ _ _ _ _ _ us hl => match us, hl with | [_, _], _ => rfl
  obtain ⟨fd__law_frac, D__law_frac⟩ := cd.def_ 29 rfl
  have F__law_frac : Fun K "_law_frac" "_law_frac" s__law_frac (He.ga K "_law_frac") fd__law_frac := fun_ofD D__law_frac.kp D__law_frac
  have m__law_frac := (He.glo_ok X G (cd.fact 29 (f := .glo "_law_frac") rfl))
  have b__law_frac : Binds K fd__law_frac ["above", "below"] [] := F__law_frac.binds fun _ _ _ _ _ _ us hl => match us, hl with | [_, _], _ => rfl
  obtain ⟨fd__law_add, D__law_add⟩ := cd.def_ 30 rfl
  have F__law_add : Fun K "_law_add" "_law_add" s__law_add (He.ga K "_law_add") fd__law_add := fun_ofD D__law_add.kp D__law_add
  have m__law_add := (He.glo_ok X G (cd.fact 30 (f := .glo "_law_add") rfl))
  have b__law_add : Binds K fd__law_add ["one", "other"] [] := F__law_add.binds fun _ _ _ _ _ _ us hl => match us, hl with | [_, _], _ => rfl
  obtain ⟨fd__law_mul, D__law_mul⟩ := cd.def_ 31 rfl
  have F__law_mul : Fun K "_law_mul" "_law_mul" s__law_mul (He.ga K "_law_mul") fd__law_mul := fun_ofD D__law_mul.kp D__law_mul
  have m__law_mul := (He.glo_ok X G (cd.fact 31 (f := .glo "_law_mul") rfl))
  have b__law_mul : Binds K fd__law_mul ["one", "other"] [] := F__law_mul.binds fun _ _ _ _ _ _ us hl => match us, hl with | [_, _], _ => rfl
  obtain ⟨fd__law_power, D__law_power⟩ := cd.def_ 32 rfl
  have F__law_power : Fun K "_law_power" "_law_power" s__law_power (He.ga K "_law_power") fd__law_power := fun_ofD D__law_power.kp D__law_power
  have m__law_power := (He.glo_ok X G (cd.fact 32 (f := .glo "_law_power") rfl))
  have b__law_power : Binds K fd__law_power ["worth", "many_so"] [] := F__law_power.binds fun _ _ _ _ _ _ us hl => match us, hl with | [_, _], _ => rfl
  obtain ⟨fd__law_less, D__law_less⟩ := cd.def_ 33 rfl
  have F__law_less : Fun K "_law_less" "_law_less" s__law_less (He.ga K "_law_less") fd__law_less := fun_ofD D__law_less.kp D__law_less
  have m__law_less := (He.glo_ok X G (cd.fact 33 (f := .glo "_law_less") rfl))
  have b__law_less : Binds K fd__law_less ["one", "other"] [] := F__law_less.binds fun _ _ _ _ _ _ us hl => match us, hl with | [_, _], _ => rfl
  obtain ⟨fd__law_like, D__law_like⟩ := cd.def_ 34 rfl
  have F__law_like : Fun K "_law_like" "_law_like" s__law_like (He.ga K "_law_like") fd__law_like := fun_ofD D__law_like.kp D__law_like
  have m__law_like := (He.glo_ok X G (cd.fact 34 (f := .glo "_law_like") rfl))
  have b__law_like : Binds K fd__law_like ["got", "due"] [] := F__law_like.binds fun _ _ _ _ _ _ us hl => match us, hl with | [_, _], _ => rfl
  obtain ⟨fd__law_size_at, D__law_size_at⟩ := cd.def_ 35 rfl
  have F__law_size_at : Fun K "_law_size_at" "_law_size_at" s__law_size_at (He.ga K "_law_size_at") fd__law_size_at := fun_ofD D__law_size_at.kp D__law_size_at
  have m__law_size_at := (He.glo_ok X G (cd.fact 35 (f := .glo "_law_size_at") rfl))
  have b__law_size_at : Binds K fd__law_size_at ["told", "wide"] [] := F__law_size_at.binds fun _ _ _ _ _ _ us hl => match us, hl with | [_, _], _ => rfl
  obtain ⟨fd__law_choices, D__law_choices⟩ := cd.def_ 36 rfl
  have F__law_choices : Fun K "_law_choices" "_law_choices" s__law_choices (He.ga K "_law_choices") fd__law_choices := fun_ofD D__law_choices.kp D__law_choices
  have m__law_choices := (He.glo_ok X G (cd.fact 36 (f := .glo "_law_choices") rfl))
  have b__law_choices : Binds K fd__law_choices ["state"] [] := F__law_choices.binds fun _ _ _ _ _ _ us hl => match us, hl with | [_], _ => rfl
  obtain ⟨fd__law_led_to, D__law_led_to⟩ := cd.def_ 37 rfl
  have F__law_led_to : Fun K "_law_led_to" "_law_led_to" s__law_led_to (He.ga K "_law_led_to") fd__law_led_to := fun_ofD D__law_led_to.kp D__law_led_to
  have m__law_led_to := (He.glo_ok X G (cd.fact 37 (f := .glo "_law_led_to") rfl))
  have b__law_led_to : Binds K fd__law_led_to ["told", "here"] [] := F__law_led_to.binds fun _ _ _ _ _ _ us hl => match us, hl with | [_, _], _ => rfl
  obtain ⟨fd__law_most, D__law_most⟩ := cd.def_ 38 rfl
  have F__law_most : Fun K "_law_most" "_law_most" s__law_most (He.ga K "_law_most") fd__law_most := fun_ofD D__law_most.kp D__law_most
  have m__law_most := (He.glo_ok X G (cd.fact 38 (f := .glo "_law_most") rfl))
  have b__law_most : Binds K fd__law_most ["steps_so"] [] := F__law_most.binds fun _ _ _ _ _ _ us hl => match us, hl with | [_], _ => rfl
  obtain ⟨fd__law_word, D__law_word⟩ := cd.def_ 39 rfl
  have F__law_word : Fun K "_law_word" "_law_word" s__law_word (He.ga K "_law_word") fd__law_word := fun_ofD D__law_word.kp D__law_word
  have m__law_word := (He.glo_ok X G (cd.fact 39 (f := .glo "_law_word") rfl))
  have b__law_word : Binds K fd__law_word ["call"] [] := F__law_word.binds fun _ _ _ _ _ _ us hl => match us, hl with | [_], _ => rfl
  obtain ⟨fd__law_all_ends, D__law_all_ends⟩ := cd.def_ 40 rfl
  have F__law_all_ends : Fun K "_law_all_ends" "_law_all_ends" s__law_all_ends (He.ga K "_law_all_ends") fd__law_all_ends := fun_ofD D__law_all_ends.kp D__law_all_ends
  have m__law_all_ends := (He.glo_ok X G (cd.fact 40 (f := .glo "_law_all_ends") rfl))
  have b__law_all_ends : Binds K fd__law_all_ends ["steps_so", "first", "size"] [] := F__law_all_ends.binds fun _ _ _ _ _ _ us hl => match us, hl with | [_, _, _], _ => rfl
  obtain ⟨fd__law_right, D__law_right⟩ := cd.def_ 41 rfl
  have F__law_right : Fun K "_law_right" "_law_right" s__law_right (He.ga K "_law_right") fd__law_right := fun_ofD D__law_right.kp D__law_right
  have m__law_right := (He.glo_ok X G (cd.fact 41 (f := .glo "_law_right") rfl))
  have b__law_right : Binds K fd__law_right ["state"] [] := F__law_right.binds fun _ _ _ _ _ _ us hl => match us, hl with | [_], _ => rfl
  obtain ⟨fd__law_refused, D__law_refused⟩ := cd.def_ 42 rfl
  have F__law_refused : Fun K "_law_refused" "_law_refused" s__law_refused (He.ga K "_law_refused") fd__law_refused := fun_ofD D__law_refused.kp D__law_refused
  have m__law_refused := (He.glo_ok X G (cd.fact 42 (f := .glo "_law_refused") rfl))
  have b__law_refused : Binds K fd__law_refused ["state"] [] := F__law_refused.binds fun _ _ _ _ _ _ us hl => match us, hl with | [_], _ => rfl
  obtain ⟨fd_law, D_law⟩ := cd.def_ 43 rfl
  have F_law : Fun K "law" "law" s_law (He.ga K "law") fd_law := fun_ofD D_law.kp D_law
  have m_law := (He.glo_ok X G (cd.fact 43 (f := .glo "law") rfl))
  have b_law : Binds K fd_law ["script"] [] := F_law.binds fun _ _ _ _ _ _ us hl => match us, hl with | [_], _ => rfl
  have mA : ∀ x ∈ exns, OexC K (He.ga K x) ∧ XfC K (He.ga K x) := fun x hx => oexB_ok (List.all_eq_true.mp mx x hx)
  obtain ⟨fd_BadNumber, D_BadNumber⟩ := cd.def_ 44 rfl
  have F_BadNumber : Fun K "__init__" "BadNumber.__init__" s_BadNumber_init (He.fAd K ("BadNumber", some "__init__")) fd_BadNumber := fun_ofD D_BadNumber.kp D_BadNumber
  have b_BadNumber : Binds K fd_BadNumber ["self", "value"] [] := F_BadNumber.binds fun _ _ _ _ _ _ us hl => match us, hl with | [_, _], _ => rfl
  obtain ⟨i_BadNumber, j_BadNumber⟩ := He.ba (cd.fact 94 (f := .meth "BadNumber" "__init__") rfl)
  have f_BadNumber : PySem.W.findIn K (.ref (He.ga K "BadNumber")) "__init__" = some (some (.ref (He.fAd K ("BadNumber", some "__init__")))) := He.eqO_ok i_BadNumber
  have t_BadNumber : PySem.W.typeIn K (.ref (He.fAd K ("BadNumber", some "__init__"))) = some (.type "function") := beq_iff_eq.mp (He.ba j_BadNumber).1
  have n_BadNumber_value : PySem.W.findIn K (.ref (He.ga K "BadNumber")) "value" = some none := He.eqO_ok (cd.fact 95 (f := .noat "BadNumber" "value") rfl)
  have A_BadNumber := mA "BadNumber" (by decide)
  obtain ⟨fd_BadRow, D_BadRow⟩ := cd.def_ 45 rfl
  have F_BadRow : Fun K "__init__" "BadRow.__init__" s_BadRow_init (He.fAd K ("BadRow", some "__init__")) fd_BadRow := fun_ofD D_BadRow.kp D_BadRow
  have b_BadRow : Binds K fd_BadRow ["self", "place"] [] := F_BadRow.binds fun _ _ _ _ _ _ us hl => match us, hl with | [_, _], _ => rfl
  obtain ⟨i_BadRow, j_BadRow⟩ := He.ba (cd.fact 96 (f := .meth "BadRow" "__init__") rfl)
  have f_BadRow : PySem.W.findIn K (.ref (He.ga K "BadRow")) "__init__" = some (some (.ref (He.fAd K ("BadRow", some "__init__")))) := He.eqO_ok i_BadRow
  have t_BadRow : PySem.W.typeIn K (.ref (He.fAd K ("BadRow", some "__init__"))) = some (.type "function") := beq_iff_eq.mp (He.ba j_BadRow).1
  have n_BadRow_place : PySem.W.findIn K (.ref (He.ga K "BadRow")) "place" = some none := He.eqO_ok (cd.fact 97 (f := .noat "BadRow" "place") rfl)
  have A_BadRow := mA "BadRow" (by decide)
  obtain ⟨fd_BadParameter, D_BadParameter⟩ := cd.def_ 46 rfl
  have F_BadParameter : Fun K "__init__" "BadParameter.__init__" s_BadParameter_init (He.fAd K ("BadParameter", some "__init__")) fd_BadParameter := fun_ofD D_BadParameter.kp D_BadParameter
  have b_BadParameter : Binds K fd_BadParameter ["self", "value"] [] := F_BadParameter.binds fun _ _ _ _ _ _ us hl => match us, hl with | [_, _], _ => rfl
  obtain ⟨i_BadParameter, j_BadParameter⟩ := He.ba (cd.fact 98 (f := .meth "BadParameter" "__init__") rfl)
  have f_BadParameter : PySem.W.findIn K (.ref (He.ga K "BadParameter")) "__init__" = some (some (.ref (He.fAd K ("BadParameter", some "__init__")))) := He.eqO_ok i_BadParameter
  have t_BadParameter : PySem.W.typeIn K (.ref (He.fAd K ("BadParameter", some "__init__"))) = some (.type "function") := beq_iff_eq.mp (He.ba j_BadParameter).1
  have n_BadParameter_value : PySem.W.findIn K (.ref (He.ga K "BadParameter")) "value" = some none := He.eqO_ok (cd.fact 99 (f := .noat "BadParameter" "value") rfl)
  have A_BadParameter := mA "BadParameter" (by decide)
  obtain ⟨fd_TooGreat, D_TooGreat⟩ := cd.def_ 47 rfl
  have F_TooGreat : Fun K "__init__" "TooGreat.__init__" s_TooGreat_init (He.fAd K ("TooGreat", some "__init__")) fd_TooGreat := fun_ofD D_TooGreat.kp D_TooGreat
  have b_TooGreat : Binds K fd_TooGreat ["self", "most"] [] := F_TooGreat.binds fun _ _ _ _ _ _ us hl => match us, hl with | [_, _], _ => rfl
  obtain ⟨i_TooGreat, j_TooGreat⟩ := He.ba (cd.fact 100 (f := .meth "TooGreat" "__init__") rfl)
  have f_TooGreat : PySem.W.findIn K (.ref (He.ga K "TooGreat")) "__init__" = some (some (.ref (He.fAd K ("TooGreat", some "__init__")))) := He.eqO_ok i_TooGreat
  have t_TooGreat : PySem.W.typeIn K (.ref (He.fAd K ("TooGreat", some "__init__"))) = some (.type "function") := beq_iff_eq.mp (He.ba j_TooGreat).1
  have n_TooGreat_most : PySem.W.findIn K (.ref (He.ga K "TooGreat")) "most" = some none := He.eqO_ok (cd.fact 101 (f := .noat "TooGreat" "most") rfl)
  have A_TooGreat := mA "TooGreat" (by decide)
  obtain ⟨oc0, od0, dV0, kV0, doc0, pm0, an0, cdv0, ct0, osl0, er0, lk0, hcd0, _, _⟩ := D__law_refused.ex
  obtain ⟨c0, rfl⟩ := He.codeIn_ref hcd0
  have hcA0 : fd__law_refused.code = .ref c0 := by rw [er0]
  have hcB0 : He.codeOf K ("_law_refused", none) = c0 := He.codeOf_eq (p := ("_law_refused", none)) lk0 hcA0
  have hc__law_refused : fd__law_refused.code = .ref (He.cT K ("_law_refused", none)).1 := by
    show fd__law_refused.code = .ref (He.codeOf K ("_law_refused", none))
    rw [hcA0, hcB0]
  have efa : fa = He.ga K "law" := by
    have e := hfa.symm.trans m_law
    cases e
    rfl
  subst efa
  refine ⟨fd_law, _, rfl, fun s u => ?_, fun base Kb Gb TB => ?_⟩
  · obtain ⟨_, _, kV, doc, pm, an, cdv, ct, _, e, _, _⟩ := F_law.ex
    exact .of_eq (fun_kw F_law fun _ _ _ _ _ _ => rfl)
  have TB__law_refused := TB (He.cT K ("_law_refused", none)) (by simp)
  have e_BadNumber : Ec P w K mg base "BadNumber" "value" (He.ga K "BadNumber") := ⟨A_BadNumber.1, n_BadNumber_value, (He.glo_ok X G (cd.fact 45 (f := .glo "BadNumber") rfl)), A_BadNumber.2, _, _, f_BadNumber, t_BadNumber, ok_BadNumber_init F_BadNumber, b_BadNumber⟩
  have e_BadRow : Ec P w K mg base "BadRow" "place" (He.ga K "BadRow") := ⟨A_BadRow.1, n_BadRow_place, (He.glo_ok X G (cd.fact 46 (f := .glo "BadRow") rfl)), A_BadRow.2, _, _, f_BadRow, t_BadRow, ok_BadRow_init F_BadRow, b_BadRow⟩
  have e_BadParameter : Ec P w K mg base "BadParameter" "value" (He.ga K "BadParameter") := ⟨A_BadParameter.1, n_BadParameter_value, (He.glo_ok X G (cd.fact 47 (f := .glo "BadParameter") rfl)), A_BadParameter.2, _, _, f_BadParameter, t_BadParameter, ok_BadParameter_init F_BadParameter, b_BadParameter⟩
  have e_TooGreat : Ec P w K mg base "TooGreat" "most" (He.ga K "TooGreat") := ⟨A_TooGreat.1, n_TooGreat_most, (He.glo_ok X G (cd.fact 48 (f := .glo "TooGreat") rfl)), A_TooGreat.2, _, _, f_TooGreat, t_TooGreat, ok_TooGreat_init F_TooGreat, b_TooGreat⟩
  have XS : Exs P w K mg base (adK K) := ⟨e_BadNumber, e_BadRow, e_BadParameter, e_TooGreat⟩
  have XQ : Exq K mg (adK K) := ⟨of_decide_eq_true (cd.fact 78 (f := .exm "BadNumber" "BadNumber" true) rfl), of_decide_eq_true (cd.fact 79 (f := .exm "BadNumber" "BadRow" false) rfl), of_decide_eq_true (cd.fact 80 (f := .exm "BadNumber" "BadParameter" false) rfl), of_decide_eq_true (cd.fact 81 (f := .exm "BadNumber" "TooGreat" false) rfl), of_decide_eq_true (cd.fact 82 (f := .exm "BadRow" "BadNumber" false) rfl), of_decide_eq_true (cd.fact 83 (f := .exm "BadRow" "BadRow" true) rfl), of_decide_eq_true (cd.fact 84 (f := .exm "BadRow" "BadParameter" false) rfl), of_decide_eq_true (cd.fact 85 (f := .exm "BadRow" "TooGreat" false) rfl), of_decide_eq_true (cd.fact 86 (f := .exm "BadParameter" "BadNumber" false) rfl), of_decide_eq_true (cd.fact 87 (f := .exm "BadParameter" "BadRow" false) rfl), of_decide_eq_true (cd.fact 88 (f := .exm "BadParameter" "BadParameter" true) rfl), of_decide_eq_true (cd.fact 89 (f := .exm "BadParameter" "TooGreat" false) rfl), of_decide_eq_true (cd.fact 90 (f := .exm "TooGreat" "BadNumber" false) rfl), of_decide_eq_true (cd.fact 91 (f := .exm "TooGreat" "BadRow" false) rfl), of_decide_eq_true (cd.fact 92 (f := .exm "TooGreat" "BadParameter" false) rfl), of_decide_eq_true (cd.fact 93 (f := .exm "TooGreat" "TooGreat" true) rfl)⟩
  have C__law_begin : Ce P w K mg base _ _ "_law_begin" _ _ := ⟨_, _, (ok__law_begin  F__law_begin T), D__law_begin.kp, b__law_begin, m__law_begin⟩
  have C__law_mixed : Ce P w K mg base _ _ "_law_mixed" _ _ := ⟨_, _, (ok__law_mixed  F__law_mixed T), D__law_mixed.kp, b__law_mixed, m__law_mixed⟩
  have C__law_draw : Ce P w K mg base _ _ "_law_draw" _ _ := ⟨_, _, (ok__law_draw  F__law_draw T C__law_mixed), D__law_draw.kp, b__law_draw, m__law_draw⟩
  have C__law_of : Ce P w K mg base _ _ "_law_of" _ _ := ⟨_, _, (ok__law_of  F__law_of T C__law_draw), D__law_of.kp, b__law_of, m__law_of⟩
  have C__law_choices : Ce P w K mg base _ _ "_law_choices" _ _ := ⟨_, _, (ok__law_choices  F__law_choices T C__law_draw C__law_of), D__law_choices.kp, b__law_choices, m__law_choices⟩
  have C__law_divisor : Ce P w K mg base _ _ "_law_divisor" _ _ := ⟨_, _, (ok__law_divisor  F__law_divisor T), D__law_divisor.kp, b__law_divisor, m__law_divisor⟩
  have C__law_frac : Ce P w K mg base _ _ "_law_frac" _ _ := ⟨_, _, (ok__law_frac  F__law_frac T C__law_divisor), D__law_frac.kp, b__law_frac, m__law_frac⟩
  have C__law_add : Ce P w K mg base _ _ "_law_add" _ _ := ⟨_, _, (ok__law_add  F__law_add T C__law_frac), D__law_add.kp, b__law_add, m__law_add⟩
  have C__law_mul : Ce P w K mg base _ _ "_law_mul" _ _ := ⟨_, _, (ok__law_mul  F__law_mul T C__law_frac), D__law_mul.kp, b__law_mul, m__law_mul⟩
  have C__law_power : Ce P w K mg base _ _ "_law_power" _ _ := ⟨_, _, (ok__law_power  F__law_power T C__law_mul), D__law_power.kp, b__law_power, m__law_power⟩
  have C__law_size_at : Ce P w K mg base _ _ "_law_size_at" _ _ := ⟨_, _, (ok__law_size_at  F__law_size_at T C__law_add C__law_mul C__law_power), D__law_size_at.kp, b__law_size_at, m__law_size_at⟩
  have C__law_less : Ce P w K mg base _ _ "_law_less" _ _ := ⟨_, _, (ok__law_less  F__law_less T), D__law_less.kp, b__law_less, m__law_less⟩
  have C__law_most : Ce P w K mg base _ _ "_law_most" _ _ := ⟨_, _, (ok__law_most  F__law_most T C__law_size_at C__law_less), D__law_most.kp, b__law_most, m__law_most⟩
  have C__law_led_to : Ce P w K mg base _ _ "_law_led_to" _ _ := ⟨_, _, (ok__law_led_to  F__law_led_to T), D__law_led_to.kp, b__law_led_to, m__law_led_to⟩
  have C__law_all_ends : Ce P w K mg base _ _ "_law_all_ends" _ _ := ⟨_, _, (ok__law_all_ends  F__law_all_ends T C__law_led_to), D__law_all_ends.kp, b__law_all_ends, m__law_all_ends⟩
  have C_is_integer : Ce P w K mg base _ _ "is_integer" _ _ := ⟨_, _, (ok_is_integer  F_is_integer T), D_is_integer.kp, b_is_integer, m_is_integer⟩
  have C_is_number : Ce P w K mg base _ _ "is_number" _ _ := ⟨_, _, (ok_is_number  F_is_number T C_is_integer), D_is_number.kp, b_is_number, m_is_number⟩
  have C_is_step : Ce P w K mg base _ _ "is_step" _ _ := ⟨_, _, (ok_is_step  F_is_step T C_is_number), D_is_step.kp, b_is_step, m_is_step⟩
  have C_need_row : Ce P w K mg base _ _ "need_row" _ _ := ⟨_, _, (ok_need_row  F_need_row T XS C_is_step), D_need_row.kp, b_need_row, m_need_row⟩
  have C_is_whole : Ce P w K mg base _ _ "is_whole" _ _ := ⟨_, _, (ok_is_whole  F_is_whole T), D_is_whole.kp, b_is_whole, m_is_whole⟩
  have C_is_let : Ce P w K mg base _ _ "is_let" _ _ := ⟨_, _, (ok_is_let  F_is_let T C_is_whole), D_is_let.kp, b_is_let, m_is_let⟩
  have C_need_choices : Ce P w K mg base _ _ "need_choices" _ _ := ⟨_, _, (ok_need_choices  F_need_choices T XS C_need_row C_is_let), D_need_choices.kp, b_need_choices, m_need_choices⟩
  have C_need_number : Ce P w K mg base _ _ "need_number" _ _ := ⟨_, _, (ok_need_number  F_need_number T XS C_is_number), D_need_number.kp, b_need_number, m_need_number⟩
  have C_need_integer_number2 : Ce P w K mg base _ _ "need_integer_number" _ _ := ⟨_, _, (ok_need_integer_number2  F_need_integer_number T XS C_need_number), D_need_integer_number.kp, b_need_integer_number, m_need_integer_number⟩
  have C_need_goal2 : Ce P w K mg base _ _ "need_goal" _ _ := ⟨_, _, (ok_need_goal2  F_need_goal T C_need_choices C_need_integer_number2), D_need_goal.kp, b_need_goal, m_need_goal⟩
  have C_opened : Ce P w K mg base _ _ "opened" _ _ := ⟨_, _, (ok_opened  F_opened T), D_opened.kp, b_opened, m_opened⟩
  have C_reaches : Ce P w K mg base _ _ "reaches" _ _ := ⟨_, _, (ok_reaches  F_reaches T), D_reaches.kp, b_reaches, m_reaches⟩
  have C_bound_of : Ce P w K mg base _ _ "bound_of" _ _ := ⟨_, _, (ok_bound_of  F_bound_of T C_opened C_reaches), D_bound_of.kp, b_bound_of, m_bound_of⟩
  have C_bound_of_all : Ce P w K mg base _ _ "bound_of_all" _ _ := ⟨_, _, (ok_bound_of_all  F_bound_of_all T C_bound_of), D_bound_of_all.kp, b_bound_of_all, m_bound_of_all⟩
  have C_refuse_many2 : Ce P w K mg base _ _ "refuse_many" _ _ := ⟨_, _, (ok_refuse_many2  F_refuse_many T XS), D_refuse_many.kp, b_refuse_many, m_refuse_many⟩
  have C_most_to2 : Ce P w K mg base _ _ "most_to" _ _ := ⟨_, _, (ok_most_to2  F_most_to T C_bound_of_all C_refuse_many2), D_most_to.kp, b_most_to, m_most_to⟩
  have C_integers_of : Ce P w K mg base _ _ "integers_of" _ _ := ⟨_, _, (ok_integers_of  F_integers_of T), D_integers_of.kp, b_integers_of, m_integers_of⟩
  have C_integer_at : Ce P w K mg base _ _ "integer_at" _ _ := ⟨_, _, (ok_integer_at  F_integer_at T), D_integer_at.kp, b_integer_at, m_integer_at⟩
  have C_followers_of : Ce P w K mg base _ _ "followers_of" _ _ := ⟨_, _, (ok_followers_of  F_followers_of T C_integer_at), D_followers_of.kp, b_followers_of, m_followers_of⟩
  have C_explored : Ce P w K mg base _ _ "explored" _ _ := ⟨_, _, (ok_explored  F_explored T C_integers_of C_followers_of), D_explored.kp, b_explored, m_explored⟩
  have C_counted : Ce P w K mg base _ _ "counted" _ _ := ⟨_, _, (ok_counted  F_counted T), D_counted.kp, b_counted, m_counted⟩
  have C_count_words : Ce P w K mg base _ _ "count_words" _ _ := ⟨_, _, (ok_count_words  F_count_words T XS C_is_integer C_need_goal2 C_most_to2 C_explored C_counted), D_count_words.kp, b_count_words, m_count_words⟩
  have K_count_words : CeK P w K mg base _ _ "count_words" _ _ := ⟨_, _, (ok_count_words  F_count_words T XS C_is_integer C_need_goal2 C_most_to2 C_explored C_counted), D_count_words.kp, fun us hl => match us, hl with | [u0, u1, u2, u3], _ => fun_kw F_count_words fun _ _ _ _ _ _ => rfl, m_count_words⟩
  have C_need_integer_number : Ce P w K mg base _ _ "need_integer_number" _ _ := ⟨_, _, (ok_need_integer_number  F_need_integer_number T C_need_number), D_need_integer_number.kp, b_need_integer_number, m_need_integer_number⟩
  have C_need_goal : Ce P w K mg base _ _ "need_goal" _ _ := ⟨_, _, (ok_need_goal  F_need_goal T C_need_choices C_need_integer_number), D_need_goal.kp, b_need_goal, m_need_goal⟩
  have C_refuse_many : Ce P w K mg base _ _ "refuse_many" _ _ := ⟨_, _, (ok_refuse_many  F_refuse_many T), D_refuse_many.kp, b_refuse_many, m_refuse_many⟩
  have C_most_to : Ce P w K mg base _ _ "most_to" _ _ := ⟨_, _, (ok_most_to  F_most_to T C_bound_of_all C_refuse_many), D_most_to.kp, b_most_to, m_most_to⟩
  have C_word_in : Ce P w K mg base _ _ "word_in" _ _ := ⟨_, _, (ok_word_in  F_word_in T), D_word_in.kp, b_word_in, m_word_in⟩
  have C_reach : Ce P w K mg base _ _ "reach" _ _ := ⟨_, _, (ok_reach  F_reach T C_need_goal C_most_to C_explored C_word_in), D_reach.kp, b_reach, m_reach⟩
  have C__law_like3 : CeG P w K mg base _ _ "_law_like" _ _ := ⟨_, _, (ok__law_like3  F__law_like T), D__law_like.kp, b__law_like, m__law_like⟩
  have C__law_right : CeG P w K mg base _ _ "_law_right" _ _ := ⟨_, _, (ok__law_right  F__law_right T C__law_draw C__law_choices C__law_most C__law_led_to C__law_all_ends C_count_words C_reach C__law_like3), D__law_right.kp, b__law_right, m__law_right⟩
  have C__law_refused : CeG P w K mg base _ _ "_law_refused" _ _ := ⟨_, _, (ok__law_refused  F__law_refused T XS XQ F__law_word m__law_word b__law_word TB__law_refused hc__law_refused C__law_of C__law_choices C_count_words C__law_like3), D__law_refused.kp, b__law_refused, m__law_refused⟩
  exact (ok_law (PP := (He.cT K ("_law_refused", none)).2) F_law T C__law_begin C__law_right C__law_refused C_count_words K_count_words C__law_like3)
end
end My
open PySem PySem.W PySem.Calls PyProof.Rows
theorem PySem.Challenge.cw_stepswithin_k84_whole_counts_of_words_holds : PySem.Challenge.rw_stepswithin_k84_whole_counts_of_words.Holds := by
  w_on; o_law
  refine HandSHeadRun.head_imp (r := My.R) (q := view My.R.prog [0, 60]) (H := My.hk) (ob := My.ob) (M := 20000) (loose := My.loose) (d := HandSHeadRun.topDef My.R.prog 60) (kwd := []) My.ob_eq My.run
    (by kernel_rfl) (by kernel_rfl) (by kernel_rfl) (by rfl) (by first | assumption | decide +kernel) (by decide +kernel) ⟨rfl, rfl, rfl, rfl, rfl, by decide +kernel⟩ ?hw ?hc
  case hw => w_witness2
  case hc =>
    refine My.walk_g (l := PySem.Challenge.rw_stepswithin_k84_whole_counts_of_words) (n := 63) (k := 14) (x := "script") (CX := fun _ => L2.CX0) rfl (by decide) (by kernel_rfl) ⟨rfl, by decide, by decide⟩ ?F (fun _ _ _ _ _ z => z)
    intro w mg fa h Y G hmg0
    obtain ⟨K, KX, c⟩ := Y
    have hmg : mg ("law" : PySem.Str) = some (.ref fa) := by
      have e : (HandSHeadRun.topDef My.R.prog 60).name = ("law" : PySem.Str) := by kernel_rfl
      rw [← e]
      exact hmg0
    obtain ⟨fd, cs, rfl, hb, hF⟩ := My.all_of (P := PySem.Challenge.rw_stepswithin_k84_whole_counts_of_words.prog) (w := w) KX G hmg c
    have key : ∀ p ∈ My.tfs, He.cT K p ∈ ([He.cT K ("_law_refused", none)] : List (PySem.Addr × PySem.Addr)) → True := fun _ _ _ => trivial
    have pick : ∀ q ∈ ([He.cT K ("_law_refused", none)] : List (PySem.Addr × PySem.Addr)), ∃ p ∈ My.tfs, q = He.cT K p := by
      intro q hq
      exact ⟨("_law_refused", none), by decide, List.mem_singleton.mp hq⟩
    refine ⟨K, KX, fd, _, My.sp_law K _, fun b hb => ?_, fun b hb => ?_, fun p hp => ?_, hb, fun H a ns hl _ hT hS => ⟨a, ns, rfl, hS, hl, hT _ (by simp), fun _ => rfl⟩, hF⟩
    · obtain ⟨q, hq, e⟩ := List.mem_map.mp hb
      obtain ⟨p, hp, e2⟩ := pick q hq
      rw [← e, e2]
      exact c.empty p hp
    · obtain ⟨q, hq, e⟩ := List.mem_map.mp hb
      obtain ⟨p, hp, e2⟩ := pick q hq
      rw [← e, e2]
      exact c.out p hp
    · obtain ⟨q, hq, e2⟩ := pick p hp
      rw [e2]
      exact codeHd_of_K KX (c.hd q hq)
