import PyProof.Rows.All
import Wide.All
import OpenK.AllK
import Wide.FinOn
import HandS.ForMost
import HandS.IsInst
import HandS.Conv
import HandS.TupAny
import HandS.Evl
import HandS.SetKeys
import HandS.Rev
import HandS.ForDict
import HandS.New
import HandS.Dict
import HandS.DictComp
import HandS.Zip
import HandS.More
import HandS.Walk
import HandS.Set
import HandS.Strs
import HandS.MethStar
import HandS.BoundList
import HandS.Lambda
import HandS.Star
import HandS.Text
import HandS.StrMore
import PyProof.EqAt
import PyProof.EqKinds
import HandS.Style
import HandS.Words
import KE.KDictPairs
import KE.GoesMore
import HandS.SetTxt0
import HandS.SetFor
import KE.DataCmp
import PySem.Challenge.RW_exactkinds_k29_falling_calls
set_option Elab.async false
set_option linter.all false
set_option maxRecDepth 100000
set_option maxHeartbeats 4000000
namespace Kx
open PySem PySem.Spec PyProof.Rows L2
def top (i : Nat) : Stmt := PySem.Challenge.pw_exactkinds_k29_falling_calls.main.body.getD i (.Pass ⟨0, 0, 0, 0⟩)
abbrev s_Kept_init : Stmt := inClass (top 2) 0
abbrev s_Kept_pair_of : Stmt := inClass (top 2) 1
abbrev s_Kept_keep : Stmt := inClass (top 2) 2
abbrev s_is_term : Stmt := top 4
abbrev s_has_form : Stmt := top 5
abbrev s_names_of : Stmt := top 6
abbrev s_is_word : Stmt := top 16
abbrev s_is_row : Stmt := top 18
abbrev s_is_integer : Stmt := top 19
abbrev s_is_kind : Stmt := top 20
abbrev s_is_deeper : Stmt := top 21
abbrev s_constructor_of : Stmt := top 22
abbrev s_words_of : Stmt := top 23
abbrev s_is_program : Stmt := top 25
abbrev s_is_headed : Stmt := top 26
abbrev s_names_asked : Stmt := top 27
abbrev s_Scope_init : Stmt := inClass (top 28) 0
abbrev s_Scope_take_pattern : Stmt := inClass (top 28) 1
abbrev s_Scope_take_name : Stmt := inClass (top 28) 2
abbrev s_Scope_has_body : Stmt := inClass (top 28) 3
abbrev s_Scope_are_parts : Stmt := inClass (top 28) 4
abbrev s_is_clause : Stmt := top 29
abbrev s_is_falling : Stmt := top 30
abbrev s_are_calls_falling : Stmt := top 31
abbrev s_nodes_of : Stmt := top 32
abbrev s_function_of : Stmt := top 33
abbrev s_calls_of : Stmt := top 34
abbrev s_group_of : Stmt := top 35
abbrev s_reached_from : Stmt := top 36
abbrev s_names_in : Stmt := top 37
abbrev s_law_state : Stmt := top 39
abbrev s_law_draw : Stmt := top 40
abbrev s_law_pick : Stmt := top 41
abbrev s_law_graph_table : Stmt := top 42
abbrev s_law_graph_pattern : Stmt := top 43
abbrev s_law_graph_body : Stmt := top 44
abbrev s_law_graph_program : Stmt := top 45
abbrev s_law_names : Stmt := top 46
abbrev s_law_calls : Stmt := top 47
abbrev s_law_next : Stmt := top 48
abbrev s_law_reached : Stmt := top 49
abbrev s_law_group : Stmt := top 50
abbrev s_law_below : Stmt := top 51
abbrev s_law_falls : Stmt := top 52
abbrev s_law_ring : Stmt := top 53
abbrev s_law : Stmt := top 54
theorem sc_Kept_init : FnScope ["self", "table", "program"] ["self"] (defScope s_Kept_init) := ⟨rfl, rfl, rfl, by decide +kernel, rfl, by decide +kernel, by decide +kernel⟩
theorem sc_Kept_pair_of : FnScope ["self", "tree", "pair"] ["self", "tree"] (defScope s_Kept_pair_of) := ⟨rfl, rfl, rfl, by decide +kernel, rfl, by decide +kernel, by decide +kernel⟩
theorem sc_Kept_keep : FnScope ["self", "tree", "result", "row"] ["self", "tree", "result"] (defScope s_Kept_keep) := ⟨rfl, rfl, rfl, by decide +kernel, rfl, by decide +kernel, by decide +kernel⟩
theorem sc_is_term : FnScope ["makers", "value"] ["makers", "value"] (defScope s_is_term) := ⟨rfl, rfl, rfl, by decide +kernel, rfl, by decide +kernel, by decide +kernel⟩
theorem sc_has_form : FnScope ["parts_by_word", "value", "may_have_names", "kept", "part"] ["parts_by_word", "value", "may_have_names", "kept"] (defScope s_has_form) := ⟨rfl, rfl, rfl, by decide +kernel, rfl, by decide +kernel, by decide +kernel⟩
theorem sc_names_of : FnScope ["term", "found", "todo", "here"] ["term"] (defScope s_names_of) := ⟨rfl, rfl, rfl, by decide +kernel, rfl, by decide +kernel, by decide +kernel⟩
theorem sc_is_word : FnScope ["value"] ["value"] (defScope s_is_word) := ⟨rfl, rfl, rfl, by decide +kernel, rfl, by decide +kernel, by decide +kernel⟩
theorem sc_is_row : FnScope ["value", "many"] ["value", "many"] (defScope s_is_row) := ⟨rfl, rfl, rfl, by decide +kernel, rfl, by decide +kernel, by decide +kernel⟩
theorem sc_is_integer : FnScope ["value"] ["value"] (defScope s_is_integer) := ⟨rfl, rfl, rfl, by decide +kernel, rfl, by decide +kernel, by decide +kernel⟩
theorem sc_is_kind : FnScope ["table", "value", "name"] ["table", "value"] (defScope s_is_kind) := ⟨rfl, rfl, rfl, by decide +kernel, rfl, by decide +kernel, by decide +kernel⟩
theorem sc_is_deeper : FnScope ["term", "most", "part"] ["term", "most"] (defScope s_is_deeper) := ⟨rfl, rfl, rfl, by decide +kernel, rfl, by decide +kernel, by decide +kernel⟩
theorem sc_constructor_of : FnScope ["table", "word", "constructor"] ["table", "word"] (defScope s_constructor_of) := ⟨rfl, rfl, rfl, by decide +kernel, rfl, by decide +kernel, by decide +kernel⟩
theorem sc_words_of : FnScope ["table", "makers", "constructors", "maker", "constructor"] ["table"] (defScope s_words_of) := ⟨rfl, rfl, rfl, by decide +kernel, rfl, by decide +kernel, by decide +kernel⟩
theorem sc_is_program : FnScope ["table", "value", "function", "words", "clause"] ["table", "value"] (defScope s_is_program) := ⟨rfl, rfl, rfl, by decide +kernel, rfl, by decide +kernel, by decide +kernel⟩
theorem sc_is_headed : FnScope ["table", "value", "_", "params", "family", "index", "falls", "clauses", "kind", "names", "name"] ["table", "value"] (defScope s_is_headed) := ⟨rfl, rfl, rfl, by decide +kernel, rfl, by decide +kernel, by decide +kernel⟩
theorem sc_names_asked : FnScope ["function", "found", "_", "term", "name"] ["function"] (defScope s_names_asked) := ⟨rfl, rfl, rfl, by decide +kernel, rfl, by decide +kernel, by decide +kernel⟩
theorem sc_Scope_init : FnScope ["self", "table", "program"] ["self", "table", "program"] (defScope s_Scope_init) := ⟨rfl, rfl, rfl, by decide +kernel, rfl, by decide +kernel, by decide +kernel⟩
theorem sc_Scope_take_pattern : FnScope ["self", "pattern", "family", "constructor"] ["self", "pattern", "family"] (defScope s_Scope_take_pattern) := ⟨rfl, rfl, rfl, by decide +kernel, rfl, by decide +kernel, by decide +kernel⟩
theorem sc_Scope_take_name : FnScope ["self", "name", "family"] ["self", "name", "family"] (defScope s_Scope_take_name) := ⟨rfl, rfl, rfl, by decide +kernel, rfl, by decide +kernel, by decide +kernel⟩
theorem sc_Scope_has_body : FnScope ["self", "body", "family", "constructor", "function"] ["self", "body", "family"] (defScope s_Scope_has_body) := ⟨rfl, rfl, rfl, by decide +kernel, rfl, by decide +kernel, by decide +kernel⟩
theorem sc_Scope_are_parts : FnScope ["self", "tree", "kinds", "test", "part", "family", "_"] ["self", "tree", "kinds", "test"] (defScope s_Scope_are_parts) := ⟨rfl, rfl, rfl, by decide +kernel, rfl, by decide +kernel, by decide +kernel⟩
theorem sc_is_clause : FnScope ["table", "program", "function", "value", "patterns", "body", "scope", "pattern", "family", "_"] ["table", "program", "function", "value"] (defScope s_is_clause) := ⟨rfl, rfl, rfl, by decide +kernel, rfl, by decide +kernel, by decide +kernel⟩
theorem sc_is_falling : FnScope ["program", "function", "group", "patterns", "body"] ["program"] (defScope s_is_falling) := ⟨rfl, rfl, rfl, by decide +kernel, rfl, by decide +kernel, by decide +kernel⟩
theorem sc_are_calls_falling : FnScope ["program", "group", "pattern", "body", "below", "call"] ["program", "group", "pattern", "body"] (defScope s_are_calls_falling) := ⟨rfl, rfl, rfl, by decide +kernel, rfl, by decide +kernel, by decide +kernel⟩
theorem sc_nodes_of : FnScope ["body", "found", "todo", "here"] ["body"] (defScope s_nodes_of) := ⟨rfl, rfl, rfl, by decide +kernel, rfl, by decide +kernel, by decide +kernel⟩
theorem sc_function_of : FnScope ["program", "word", "function"] ["program", "word"] (defScope s_function_of) := ⟨rfl, rfl, rfl, by decide +kernel, rfl, by decide +kernel, by decide +kernel⟩
theorem sc_calls_of : FnScope ["program", "word", "words", "found", "_", "body", "node", "function"] ["program", "word"] (defScope s_calls_of) := ⟨rfl, rfl, rfl, by decide +kernel, rfl, by decide +kernel, by decide +kernel⟩
theorem sc_group_of : FnScope ["program", "word", "reached", "group", "function", "other"] ["program", "word"] (defScope s_group_of) := ⟨rfl, rfl, rfl, by decide +kernel, rfl, by decide +kernel, by decide +kernel⟩
theorem sc_reached_from : FnScope ["program", "word", "found", "at", "other"] ["program", "word"] (defScope s_reached_from) := ⟨rfl, rfl, rfl, by decide +kernel, rfl, by decide +kernel, by decide +kernel⟩
theorem sc_names_in : FnScope ["pattern"] ["pattern"] (defScope s_names_in) := ⟨rfl, rfl, rfl, by decide +kernel, rfl, by decide +kernel, by decide +kernel⟩
theorem sc_law_state : FnScope ["script", "seed", "cell"] ["script"] (defScope s_law_state) := ⟨rfl, rfl, rfl, by decide +kernel, rfl, by decide +kernel, by decide +kernel⟩
theorem sc_law_draw : FnScope ["state", "many", "cells", "value", "mixed"] ["state", "many"] (defScope s_law_draw) := ⟨rfl, rfl, rfl, by decide +kernel, rfl, by decide +kernel, by decide +kernel⟩
theorem sc_law_pick : FnScope ["state", "row"] ["state", "row"] (defScope s_law_pick) := ⟨rfl, rfl, rfl, by decide +kernel, rfl, by decide +kernel, by decide +kernel⟩
theorem sc_law_graph_table : FnScope ["next_n", "rows"] [] (defScope s_law_graph_table) := ⟨rfl, rfl, rfl, by decide +kernel, rfl, by decide +kernel, by decide +kernel⟩
theorem sc_law_graph_pattern : FnScope ["state", "mark", "kind"] ["state", "mark"] (defScope s_law_graph_pattern) := ⟨rfl, rfl, rfl, by decide +kernel, rfl, by decide +kernel, by decide +kernel⟩
theorem sc_law_graph_body : FnScope ["state", "places", "names", "deep", "most", "kind", "word", "args", "k"] ["state", "places", "names", "deep", "most"] (defScope s_law_graph_body) := ⟨rfl, rfl, rfl, by decide +kernel, rfl, by decide +kernel, by decide +kernel⟩
theorem sc_law_graph_program : FnScope ["state", "many", "places", "k", "size", "functions", "place", "clauses", "turn", "patterns", "names", "pattern", "most", "params", "j"] ["state"] (defScope s_law_graph_program) := ⟨rfl, rfl, rfl, by decide +kernel, rfl, by decide +kernel, by decide +kernel⟩
theorem sc_law_names : FnScope ["term", "found", "part", "name"] ["term"] (defScope s_law_names) := ⟨rfl, rfl, rfl, by decide +kernel, rfl, by decide +kernel, by decide +kernel⟩
theorem sc_law_calls : FnScope ["program", "body", "found", "parts", "words", "part", "row"] ["program", "body"] (defScope s_law_calls) := ⟨rfl, rfl, rfl, by decide +kernel, rfl, by decide +kernel, by decide +kernel⟩
theorem sc_law_next : FnScope ["program", "word", "row", "found", "patterns", "body", "one", "call"] ["program", "word"] (defScope s_law_next) := ⟨rfl, rfl, rfl, by decide +kernel, rfl, by decide +kernel, by decide +kernel⟩
theorem sc_law_reached : FnScope ["program", "word", "found", "front", "other"] ["program", "word"] (defScope s_law_reached) := ⟨rfl, rfl, rfl, by decide +kernel, rfl, by decide +kernel, by decide +kernel⟩
theorem sc_law_group : FnScope ["program", "word", "found", "other"] ["program", "word"] (defScope s_law_group) := ⟨rfl, rfl, rfl, by decide +kernel, rfl, by decide +kernel, by decide +kernel⟩
theorem sc_law_below : FnScope ["pattern"] ["pattern"] (defScope s_law_below) := ⟨rfl, rfl, rfl, by decide +kernel, rfl, by decide +kernel, by decide +kernel⟩
theorem sc_law_falls : FnScope ["program", "places", "row", "group", "patterns", "body", "call"] ["program"] (defScope s_law_falls) := ⟨rfl, rfl, rfl, by decide +kernel, rfl, by decide +kernel, by decide +kernel⟩
theorem sc_law_ring : FnScope ["state", "many", "odd", "functions", "k", "pattern", "clauses", "turn"] ["state"] (defScope s_law_ring) := ⟨rfl, rfl, rfl, by decide +kernel, rfl, by decide +kernel, by decide +kernel⟩
theorem sc_law : FnScope ["script", "state", "table", "turn", "program", "due", "told"] ["script"] (defScope s_law) := ⟨rfl, rfl, rfl, by decide +kernel, rfl, by decide +kernel, by decide +kernel⟩
structure Txt (K : PySem.W.Frag) (mg : Str → Option Value) where
  c_Kept : Addr
  cl_Kept : Cls K c_Kept
  mg_Kept : mg "Kept" = some (.ref c_Kept)
  no_Kept_rows : NoAttr K c_Kept "rows"
  c_Scope : Addr
  cl_Scope : Cls K c_Scope
  mg_Scope : mg "Scope" = some (.ref c_Scope)
  no_Scope_table : NoAttr K c_Scope "table"
  no_Scope_program : NoAttr K c_Scope "program"
  no_Scope_families : NoAttr K c_Scope "families"
  no_Scope_left : NoAttr K c_Scope "left"
  t_MOST_KEPT : Tok
  g_MOST_KEPT : mg "MOST_KEPT" = some (.int 32 t_MOST_KEPT)
  t_MOST_NAME : Tok
  g_MOST_NAME : mg "MOST_NAME" = some (.int 12 t_MOST_NAME)
  t_MOST_PARTS : Tok
  g_MOST_PARTS : mg "MOST_PARTS" = some (.int 3 t_MOST_PARTS)
  t_MOST_NAMES : Tok
  g_MOST_NAMES : mg "MOST_NAMES" = some (.int 4 t_MOST_NAMES)
  t_MOST_DEEP : Tok
  g_MOST_DEEP : mg "MOST_DEEP" = some (.int 4 t_MOST_DEEP)
  t_MOST_FUNCTIONS : Tok
  g_MOST_FUNCTIONS : mg "MOST_FUNCTIONS" = some (.int 12 t_MOST_FUNCTIONS)
  t_MOST_CLAUSES : Tok
  g_MOST_CLAUSES : mg "MOST_CLAUSES" = some (.int 12 t_MOST_CLAUSES)
  t_MOST_PATTERN : Tok
  g_MOST_PATTERN : mg "MOST_PATTERN" = some (.int 6 t_MOST_PATTERN)
  t_MOST_BODY : Tok
  g_MOST_BODY : mg "MOST_BODY" = some (.int 30 t_MOST_BODY)
  a_Kept_init : Addr
  d_Kept_init : FuncData
  F_Kept_init : Fun K "__init__" "Kept.__init__" s_Kept_init a_Kept_init d_Kept_init
  b_Kept_init : Binds K d_Kept_init ["self"] []
  me_Kept_init : Meth K c_Kept "__init__" a_Kept_init
  a_Kept_pair_of : Addr
  d_Kept_pair_of : FuncData
  F_Kept_pair_of : Fun K "pair_of" "Kept.pair_of" s_Kept_pair_of a_Kept_pair_of d_Kept_pair_of
  b_Kept_pair_of : Binds K d_Kept_pair_of ["self", "tree"] []
  me_Kept_pair_of : Meth K c_Kept "pair_of" a_Kept_pair_of
  a_Kept_keep : Addr
  d_Kept_keep : FuncData
  F_Kept_keep : Fun K "keep" "Kept.keep" s_Kept_keep a_Kept_keep d_Kept_keep
  b_Kept_keep : Binds K d_Kept_keep ["self", "tree", "result"] []
  me_Kept_keep : Meth K c_Kept "keep" a_Kept_keep
  a_is_term : Addr
  d_is_term : FuncData
  F_is_term : Fun K "is_term" "is_term" s_is_term a_is_term d_is_term
  b_is_term : Binds K d_is_term ["makers", "value"] []
  m_is_term : mg "is_term" = some (.ref a_is_term)
  a_has_form : Addr
  d_has_form : FuncData
  F_has_form : Fun K "_has_form" "_has_form" s_has_form a_has_form d_has_form
  b_has_form : Binds K d_has_form ["parts_by_word", "value", "may_have_names", "kept"] []
  m_has_form : mg "_has_form" = some (.ref a_has_form)
  a_names_of : Addr
  d_names_of : FuncData
  F_names_of : Fun K "names_of" "names_of" s_names_of a_names_of d_names_of
  b_names_of : Binds K d_names_of ["term"] []
  m_names_of : mg "names_of" = some (.ref a_names_of)
  a_is_word : Addr
  d_is_word : FuncData
  F_is_word : Fun K "is_word" "is_word" s_is_word a_is_word d_is_word
  b_is_word : Binds K d_is_word ["value"] []
  m_is_word : mg "is_word" = some (.ref a_is_word)
  a_is_row : Addr
  d_is_row : FuncData
  F_is_row : Fun K "is_row" "is_row" s_is_row a_is_row d_is_row
  b_is_row : Binds K d_is_row ["value", "many"] []
  m_is_row : mg "is_row" = some (.ref a_is_row)
  a_is_integer : Addr
  d_is_integer : FuncData
  F_is_integer : Fun K "is_integer" "is_integer" s_is_integer a_is_integer d_is_integer
  b_is_integer : Binds K d_is_integer ["value"] []
  m_is_integer : mg "is_integer" = some (.ref a_is_integer)
  a_is_kind : Addr
  d_is_kind : FuncData
  F_is_kind : Fun K "is_kind" "is_kind" s_is_kind a_is_kind d_is_kind
  b_is_kind : Binds K d_is_kind ["table", "value"] []
  m_is_kind : mg "is_kind" = some (.ref a_is_kind)
  a_is_deeper : Addr
  d_is_deeper : FuncData
  F_is_deeper : Fun K "_is_deeper" "_is_deeper" s_is_deeper a_is_deeper d_is_deeper
  b_is_deeper : Binds K d_is_deeper ["term", "most"] []
  m_is_deeper : mg "_is_deeper" = some (.ref a_is_deeper)
  a_constructor_of : Addr
  d_constructor_of : FuncData
  F_constructor_of : Fun K "constructor_of" "constructor_of" s_constructor_of a_constructor_of d_constructor_of
  b_constructor_of : Binds K d_constructor_of ["table", "word"] []
  m_constructor_of : mg "constructor_of" = some (.ref a_constructor_of)
  a_words_of : Addr
  d_words_of : FuncData
  F_words_of : Fun K "words_of" "words_of" s_words_of a_words_of d_words_of
  b_words_of : Binds K d_words_of ["table"] []
  m_words_of : mg "words_of" = some (.ref a_words_of)
  a_is_program : Addr
  d_is_program : FuncData
  F_is_program : Fun K "is_program" "is_program" s_is_program a_is_program d_is_program
  b_is_program : Binds K d_is_program ["table", "value"] []
  m_is_program : mg "is_program" = some (.ref a_is_program)
  a_is_headed : Addr
  d_is_headed : FuncData
  F_is_headed : Fun K "_is_headed" "_is_headed" s_is_headed a_is_headed d_is_headed
  b_is_headed : Binds K d_is_headed ["table", "value"] []
  m_is_headed : mg "_is_headed" = some (.ref a_is_headed)
  a_names_asked : Addr
  d_names_asked : FuncData
  F_names_asked : Fun K "names_asked" "names_asked" s_names_asked a_names_asked d_names_asked
  b_names_asked : Binds K d_names_asked ["function"] []
  m_names_asked : mg "names_asked" = some (.ref a_names_asked)
  a_Scope_init : Addr
  d_Scope_init : FuncData
  F_Scope_init : Fun K "__init__" "Scope.__init__" s_Scope_init a_Scope_init d_Scope_init
  b_Scope_init : Binds K d_Scope_init ["self", "table", "program"] []
  me_Scope_init : Meth K c_Scope "__init__" a_Scope_init
  a_Scope_take_pattern : Addr
  d_Scope_take_pattern : FuncData
  F_Scope_take_pattern : Fun K "take_pattern" "Scope.take_pattern" s_Scope_take_pattern a_Scope_take_pattern d_Scope_take_pattern
  b_Scope_take_pattern : Binds K d_Scope_take_pattern ["self", "pattern", "family"] []
  me_Scope_take_pattern : Meth K c_Scope "take_pattern" a_Scope_take_pattern
  bm_Scope_take_pattern : BMeth K c_Scope "take_pattern" a_Scope_take_pattern
  a_Scope_take_name : Addr
  d_Scope_take_name : FuncData
  F_Scope_take_name : Fun K "_take_name" "Scope._take_name" s_Scope_take_name a_Scope_take_name d_Scope_take_name
  b_Scope_take_name : Binds K d_Scope_take_name ["self", "name", "family"] []
  me_Scope_take_name : Meth K c_Scope "_take_name" a_Scope_take_name
  a_Scope_has_body : Addr
  d_Scope_has_body : FuncData
  F_Scope_has_body : Fun K "has_body" "Scope.has_body" s_Scope_has_body a_Scope_has_body d_Scope_has_body
  b_Scope_has_body : Binds K d_Scope_has_body ["self", "body", "family"] []
  me_Scope_has_body : Meth K c_Scope "has_body" a_Scope_has_body
  bm_Scope_has_body : BMeth K c_Scope "has_body" a_Scope_has_body
  a_Scope_are_parts : Addr
  d_Scope_are_parts : FuncData
  F_Scope_are_parts : Fun K "_are_parts" "Scope._are_parts" s_Scope_are_parts a_Scope_are_parts d_Scope_are_parts
  b_Scope_are_parts : Binds K d_Scope_are_parts ["self", "tree", "kinds", "test"] []
  me_Scope_are_parts : Meth K c_Scope "_are_parts" a_Scope_are_parts
  a_is_clause : Addr
  d_is_clause : FuncData
  F_is_clause : Fun K "_is_clause" "_is_clause" s_is_clause a_is_clause d_is_clause
  b_is_clause : Binds K d_is_clause ["table", "program", "function", "value"] []
  m_is_clause : mg "_is_clause" = some (.ref a_is_clause)
  a_is_falling : Addr
  d_is_falling : FuncData
  F_is_falling : Fun K "_is_falling" "_is_falling" s_is_falling a_is_falling d_is_falling
  b_is_falling : Binds K d_is_falling ["program"] []
  m_is_falling : mg "_is_falling" = some (.ref a_is_falling)
  a_are_calls_falling : Addr
  d_are_calls_falling : FuncData
  F_are_calls_falling : Fun K "_are_calls_falling" "_are_calls_falling" s_are_calls_falling a_are_calls_falling d_are_calls_falling
  b_are_calls_falling : Binds K d_are_calls_falling ["program", "group", "pattern", "body"] []
  m_are_calls_falling : mg "_are_calls_falling" = some (.ref a_are_calls_falling)
  a_nodes_of : Addr
  d_nodes_of : FuncData
  F_nodes_of : Fun K "_nodes_of" "_nodes_of" s_nodes_of a_nodes_of d_nodes_of
  b_nodes_of : Binds K d_nodes_of ["body"] []
  m_nodes_of : mg "_nodes_of" = some (.ref a_nodes_of)
  a_function_of : Addr
  d_function_of : FuncData
  F_function_of : Fun K "function_of" "function_of" s_function_of a_function_of d_function_of
  b_function_of : Binds K d_function_of ["program", "word"] []
  m_function_of : mg "function_of" = some (.ref a_function_of)
  a_calls_of : Addr
  d_calls_of : FuncData
  F_calls_of : Fun K "calls_of" "calls_of" s_calls_of a_calls_of d_calls_of
  b_calls_of : Binds K d_calls_of ["program", "word"] []
  m_calls_of : mg "calls_of" = some (.ref a_calls_of)
  a_group_of : Addr
  d_group_of : FuncData
  F_group_of : Fun K "group_of" "group_of" s_group_of a_group_of d_group_of
  b_group_of : Binds K d_group_of ["program", "word"] []
  m_group_of : mg "group_of" = some (.ref a_group_of)
  a_reached_from : Addr
  d_reached_from : FuncData
  F_reached_from : Fun K "_reached_from" "_reached_from" s_reached_from a_reached_from d_reached_from
  b_reached_from : Binds K d_reached_from ["program", "word"] []
  m_reached_from : mg "_reached_from" = some (.ref a_reached_from)
  a_names_in : Addr
  d_names_in : FuncData
  F_names_in : Fun K "names_in" "names_in" s_names_in a_names_in d_names_in
  b_names_in : Binds K d_names_in ["pattern"] []
  m_names_in : mg "names_in" = some (.ref a_names_in)
  a_law_state : Addr
  d_law_state : FuncData
  F_law_state : Fun K "_law_state" "_law_state" s_law_state a_law_state d_law_state
  b_law_state : Binds K d_law_state ["script"] []
  m_law_state : mg "_law_state" = some (.ref a_law_state)
  a_law_draw : Addr
  d_law_draw : FuncData
  F_law_draw : Fun K "_law_draw" "_law_draw" s_law_draw a_law_draw d_law_draw
  b_law_draw : Binds K d_law_draw ["state", "many"] []
  m_law_draw : mg "_law_draw" = some (.ref a_law_draw)
  a_law_pick : Addr
  d_law_pick : FuncData
  F_law_pick : Fun K "_law_pick" "_law_pick" s_law_pick a_law_pick d_law_pick
  b_law_pick : Binds K d_law_pick ["state", "row"] []
  m_law_pick : mg "_law_pick" = some (.ref a_law_pick)
  a_law_graph_table : Addr
  d_law_graph_table : FuncData
  F_law_graph_table : Fun K "_law_graph_table" "_law_graph_table" s_law_graph_table a_law_graph_table d_law_graph_table
  b_law_graph_table : Binds K d_law_graph_table [] []
  m_law_graph_table : mg "_law_graph_table" = some (.ref a_law_graph_table)
  a_law_graph_pattern : Addr
  d_law_graph_pattern : FuncData
  F_law_graph_pattern : Fun K "_law_graph_pattern" "_law_graph_pattern" s_law_graph_pattern a_law_graph_pattern d_law_graph_pattern
  b_law_graph_pattern : Binds K d_law_graph_pattern ["state", "mark"] []
  m_law_graph_pattern : mg "_law_graph_pattern" = some (.ref a_law_graph_pattern)
  a_law_graph_body : Addr
  d_law_graph_body : FuncData
  F_law_graph_body : Fun K "_law_graph_body" "_law_graph_body" s_law_graph_body a_law_graph_body d_law_graph_body
  b_law_graph_body : Binds K d_law_graph_body ["state", "places", "names", "deep", "most"] []
  m_law_graph_body : mg "_law_graph_body" = some (.ref a_law_graph_body)
  a_law_graph_program : Addr
  d_law_graph_program : FuncData
  F_law_graph_program : Fun K "_law_graph_program" "_law_graph_program" s_law_graph_program a_law_graph_program d_law_graph_program
  b_law_graph_program : Binds K d_law_graph_program ["state"] []
  m_law_graph_program : mg "_law_graph_program" = some (.ref a_law_graph_program)
  a_law_names : Addr
  d_law_names : FuncData
  F_law_names : Fun K "_law_names" "_law_names" s_law_names a_law_names d_law_names
  b_law_names : Binds K d_law_names ["term"] []
  m_law_names : mg "_law_names" = some (.ref a_law_names)
  a_law_calls : Addr
  d_law_calls : FuncData
  F_law_calls : Fun K "_law_calls" "_law_calls" s_law_calls a_law_calls d_law_calls
  b_law_calls : Binds K d_law_calls ["program", "body"] []
  m_law_calls : mg "_law_calls" = some (.ref a_law_calls)
  a_law_next : Addr
  d_law_next : FuncData
  F_law_next : Fun K "_law_next" "_law_next" s_law_next a_law_next d_law_next
  b_law_next : Binds K d_law_next ["program", "word"] []
  m_law_next : mg "_law_next" = some (.ref a_law_next)
  a_law_reached : Addr
  d_law_reached : FuncData
  F_law_reached : Fun K "_law_reached" "_law_reached" s_law_reached a_law_reached d_law_reached
  b_law_reached : Binds K d_law_reached ["program", "word"] []
  m_law_reached : mg "_law_reached" = some (.ref a_law_reached)
  a_law_group : Addr
  d_law_group : FuncData
  F_law_group : Fun K "_law_group" "_law_group" s_law_group a_law_group d_law_group
  b_law_group : Binds K d_law_group ["program", "word"] []
  m_law_group : mg "_law_group" = some (.ref a_law_group)
  a_law_below : Addr
  d_law_below : FuncData
  F_law_below : Fun K "_law_below" "_law_below" s_law_below a_law_below d_law_below
  b_law_below : Binds K d_law_below ["pattern"] []
  m_law_below : mg "_law_below" = some (.ref a_law_below)
  a_law_falls : Addr
  d_law_falls : FuncData
  F_law_falls : Fun K "_law_falls" "_law_falls" s_law_falls a_law_falls d_law_falls
  b_law_falls : Binds K d_law_falls ["program"] []
  m_law_falls : mg "_law_falls" = some (.ref a_law_falls)
  a_law_ring : Addr
  d_law_ring : FuncData
  F_law_ring : Fun K "_law_ring" "_law_ring" s_law_ring a_law_ring d_law_ring
  b_law_ring : Binds K d_law_ring ["state"] []
  m_law_ring : mg "_law_ring" = some (.ref a_law_ring)
  a_law : Addr
  d_law : FuncData
  F_law : Fun K "law" "law" s_law a_law d_law
  b_law : Binds K d_law ["script"] []
  m_law : mg "law" = some (.ref a_law)
  mk_Kept : Mk K c_Kept a_Kept_init
  mk_Scope : Mk K c_Scope a_Scope_init
  z_reversed : mg "reversed" = none
  z_dict : mg "dict" = none
  z_isinstance : mg "isinstance" = none
  z_str : mg "str" = none
  z_tuple : mg "tuple" = none
  z_len : mg "len" = none
  z_int : mg "int" = none
  z_bool : mg "bool" = none
  z_list : mg "list" = none
  z_set : mg "set" = none
  z_zip : mg "zip" = none
  z_sorted : mg "sorted" = none
  z_abs : mg "abs" = none
  z_range : mg "range" = none
end Kx
set_option maxHeartbeats 2000000
/-! A bound method of an own class that is handed to a def, and called there by a name. -/
namespace KBm
open PySem PySem.Spec PyProof.Rows L2
/-- o.m without a call -/
def tBound (C : Addr) (m : Str) (g : Addr) (ta : TE) : TE := fun σ H Q => ta σ H fun x H1 => ∃ a dx fs, x = .ref a ∧ H1 a = some (.ins C dx fs) ∧ fs.lookup m = none ∧ ∀ q, H1 q = none → Q (.ref q) (upd H1 q (.met g a))
theorem pe_bound {X : Cx} {C g : Addr} {m : Str} {o : Expr} {ta : TE} {pos : Pos} (ho : PE X o ta) (c : Cls X.K C) (b : BMeth X.K C m g)
    (he : eval (.Attribute o m pos) X.env = (do
      let v ← eval o X.env
      standAt pos.atName
      let r ← holding [v] (getAttr v m true)
      letTemporaryGo o v r
      pure r) := by rfl) : PE X (.Attribute o m pos) (tBound C m g ta) := by
  refine ⟨fun pins s σ H Q I h => ?_⟩
  refine Attribute_any_ (thn (ho.run pins s σ H _ I h) fun u s1 ⟨v, H1, J, r, a, dx, fs, hv, ha, hl, q⟩ => ?_) he
  subst hv
  exact op_getbound J ha c b hl r q
/-- x(e, ..), x a name that holds a bound method of g -/
def tActM (i : Nat) (g : Addr) (sp : Sp) (t : TA) : TE := fun σ H Q => ∃ q a, σ[i]? = some (some (.ref q)) ∧ H q = some (.met g a) ∧ t σ H fun vs H1 => H1 q = some (.met g a) ∧ sp (.ref a :: vs) H1 Q E0
theorem pe_actM {X : Cx} {i k : Nat} {g : Addr} {fd : FuncData} {ps : List Str} {sp : Sp} {x : Str} {e : Expr} {es : List Expr} {t : TA} {p pos : Pos} (F : FnOk X.prog X.w X.K X.mg X.base CX0 k g fd ps sp) (hr : Room k X.A) (hf : PySem.W.fnIn X.K g = true) (hb : Binds X.K fd ps [])
    (hN : X.N[i]? = some x) (hv : Vis X.env.scope x) (ha : PA X (e :: es) t)
    (hd : (x == ("__debug__" : Str)) = false := by decide) (hcd : (x == ("__classdict__" : Str)) = false := by decide)
    (he : starEach (e :: es) X.env = (false, eval e X.env) :: starEach es X.env := by rfl) (hpl : (backTo pos (starEach es X.env)).any (·.1) = false := by rfl) :
    PE X (.Call (.Name x p) (e :: es) [] pos) (tActM i g sp t) := by
  refine ⟨fun pins s σ H Q I h => ?_⟩
  obtain ⟨q, a, at_, hq, args⟩ := h
  refine wpAny_Call_Name_kw (thn ((pe_var (pos := p) hN hv hd hcd).run pins s σ H (fun v H1 => v = .ref q ∧ H1 = H) I ⟨.ref q, at_, rfl, rfl⟩) fun u s1 ⟨v, H1, J, r1, isv, isH⟩ => ?_)
  subst isv isH
  cases (show u = Value.ref q from r1)
  have run := ha.run pos pins s1 σ H1 _ J args
  rw [he] at run ⊢
  refine callwith_met (X := X) (g := g) (a := a) ?_ hf (Calls.evalArgs_plain (thn run fun us s2 ⟨vs, H2, J2, r2, hq2, told⟩ => ⟨met_P J2 hq2, ?_⟩))
  · show ((false || (backTo pos (starEach es X.env)).any (·.1)) || false) = false
    rw [hpl]; rfl
  show wpAny _ _ (call (.ref q) us) _ _ _
  refine wpAny_call (call_met J2 hq2 (codeAny_mono (F.run X.A X.stack s2 H2 ⟨.ref a :: us, []⟩ (.ref a :: us) (.ref a :: vs) Q E0 hr J2.env0 ?_ (.cons rfl r2) told) fun r s3 done => ?_))
  · have := hb s2 (.ref a :: us) J2.kIn (by rw [List.append_nil, ← F.len _ _ _ _ told]; simp [Paired.length r2])
    rwa [List.append_nil] at this
  rcases r with e3 | fl
  · exact done.elim
  · cases fl <;> first
      | exact J2.after done
      | exact done.elim
/-- a tuple display, told as an object that stands as it is -/
def tTupF (t : TA) : TE := fun σ H Q => t σ H fun vs H1 => vs.length ≤ sizeLine ∧ ∀ l (o : Obj), H1 l = none → o.dict = none → Q (.ref l) (upd H1 l (.frz o (.tup vs)))
theorem pe_tupF {X : Cx} {es : List Expr} {t : TA} {pos : Pos} {x1 : Nat} (ha : PA X es t) : PE X (.Tuple es x1 pos) (tTupF t) := by
  refine ⟨fun pins s σ H Q I h => ?_⟩
  refine wpAny_Tuple (thn (ha.run pos pins s σ H _ I h) fun us s1 ⟨vs, H1, J, r, len, fin⟩ => ?_)
  have l2 : us.length = vs.length := (Paired.length r).symm
  have l3 : us.length ≤ sizeLine := by omega
  exact ⟨l3, .ref _, _, J.laid (t' := s1.toks) (o := .frz { cls := .type "tuple", data := .seq us.toArray } (.tup vs)) (fun b ob q => Heap.get?_push_of_some _ q) (Nat.le_refl _) ⟨Heap.get?_push_size _ rfl, len, us, r, IsTup.new _ _⟩, rfl, fin _ _ (J.hok.fresh (Nat.le_refl _)) rfl⟩
end KBm
set_option maxHeartbeats 2000000
/-! Rules of our own over the layer: see the remarks. -/
namespace Kx
open PySem PySem.Spec PyProof.Rows L2
/-! ### rules with the written part named (for the blocks of comprehensions) -/
section
variable {X : Cx} {K : PySem.W.Frag}
theorem inSeqK (h : X.K = K := by rfl) : OpR X (compareOp .In) (rIn K false) := by subst h; exact op_in_seq
theorem notInSeqK (h : X.K = K := by rfl) : OpR X (compareOp .NotIn) (rIn K true) := by subst h; exact op_notIn_seq
theorem ixLK (h : X.K = K := by rfl) : IxR X (rIxL K) := by subst h; exact ix_list
theorem ixTK (h : X.K = K := by rfl) : IxR X (rIxT K) := by subst h; exact ix_tup
end
/-! ### l.extend(t), t a tuple -/
def rExtT (K : PySem.W.Frag) : V → List V → Hp → VK → Prop := fun x vs H Q => ∃ l b xs zs, x = .ref l ∧ vs = [.ref b] ∧ H l = some (.lst xs) ∧ (∃ o : Obj, H b = some (.frz o (.tup zs)) ∧ o.dict = none ∧ o.slots = #[]) ∧ xs.length + zs.length ≤ sizeLine ∧ Q .non (upd H l (.lst (xs ++ zs)))
section
variable {X : Cx}
theorem mt_extT : MtR X "list.extend" (rExtT X.K) := by
  intro pins s σ H x vs v us Q I rx rv hyp
  obtain ⟨l, b, xs, zs, rfl, rfl, hH, ⟨o, hB, hd, hsl⟩, hz, fin⟩ := hyp
  cases rx
  obtain ⟨u, rfl, ru⟩ := rv.one
  cases ru
  obtain ⟨z, its, n, r, hl, e⟩ := I.lstM hH
  obtain ⟨e2, z2, its2, r2, hT⟩ := (show ObjOk X.prog X.w H s.heap b (.frz o (.tup zs)) from I.hok b _ hB)
  obtain ⟨o2, e3, hc2, n2, hd2⟩ := hT
  rw [e2] at e3
  cases e3
  obtain ⟨oc, od, dt, sl⟩ := o
  simp only at hc2 hd2 hd hsl
  subst hc2 hd2 hd hsl
  have w1 : its.length = xs.length := r.length.symm
  have w2 : its2.length = zs.length := r2.length.symm
  have size2 : its.toArray.size + its2.toArray.size ≤ sizeLine := by
    simp only [List.size_toArray, w1, w2]; exact hz
  have few : ¬ (!its.toArray.isEmpty && Builtin.List.listTooLong (its.toArray.size + its2.toArray.size)) = true := by
    rw [notLongL size2, Bool.and_false]; simp
  refine call_meets F.slot_list_extend ⟨_, e, rfl⟩ F.entry_list_extend (F.args_list_extend_2 _ _)
    (AutoSeq1.list_extend_list_tuple_0 l its.toArray n b its2.toArray n2 few (Nat.le_trans (Nat.le_add_right _ _) size2) (Nat.le_succ_of_le size2)) ⟨e, e2, ?_⟩
  refine ⟨.non, _, I.lset (its' := its ++ its2) hH e (by simp) (r.append r2) ?_, rfl, fin⟩
  simp only [List.length_append]; exact hz
end
/-! ### t[:0:-1]: a tuple backwards without its first item -/
section
variable {prog : Program} {w : World} {A : Around} {E : Value → Shared → Prop} {s : Shared}
theorem back_pick {α : Type} : ∀ l : List α, (List.range l.length).filterMap (fun m => l[l.length - 1 - m]?) = l.reverse := by
  intro l
  have h : ∀ k, k ≤ l.length → (List.range k).filterMap (fun m => l[l.length - 1 - m]?) = (l.drop (l.length - k)).reverse := by
    intro k
    induction k with
    | zero => intro _; simp
    | succ k ih =>
      intro hk
      rw [List.range_succ, List.filterMap_append, ih (by omega)]
      have e : l.drop (l.length - (k + 1)) = l[l.length - (k + 1)]'(by omega) :: l.drop (l.length - k) := by
        rw [List.drop_eq_getElem_cons (by omega)]
        congr 2
        omega
      rw [e, List.reverse_cons]
      congr 1
      have e2 : l[l.length - 1 - k]? = some (l[l.length - (k + 1)]'(by omega)) := by
        rw [← List.getElem?_eq_getElem]
        congr 1
        omega
      simp [e2]
  have := h l.length (Nat.le_refl _)
  simpa using this
theorem back_pick1 (xs : List Value) (h1 : 1 ≤ xs.length) : (List.range (xs.length - 1)).filterMap (fun (m : Nat) => xs[(((xs.length - 1 : Nat) : Int) + (m : Int) * (-1)).toNat]?) = (xs.drop 1).reverse := by
  have h := back_pick (xs.drop 1)
  rw [List.length_drop] at h
  rw [← h]
  have key : ∀ k, k ≤ xs.length - 1 → (List.range k).filterMap (fun (m : Nat) => xs[(((xs.length - 1 : Nat) : Int) + (m : Int) * (-1)).toNat]?) = (List.range k).filterMap (fun m => (xs.drop 1)[xs.length - 1 - 1 - m]?) := by
    intro k
    induction k with
    | zero => intro _; rfl
    | succ k ih =>
      intro hk
      rw [List.range_succ, List.filterMap_append, List.filterMap_append, ih (by omega)]
      congr 1
      have e : (((xs.length - 1 : Nat) : Int) + (k : Int) * (-1)).toNat = 1 + (xs.length - 1 - 1 - k) := by omega
      simp only [List.filterMap_cons, List.filterMap_nil, e, List.getElem?_drop]
  exact key _ (Nat.le_refl _)
theorem back_adjust (n : Nat) (h : 1 ≤ n) : Builtin.Slice.sliceAdjust none (some 0) (-1) (n : Int) = (((n - 1 : Nat) : Int), 0) := by
  unfold Builtin.Slice.sliceAdjust
  simp only [show ((-1 : Int) < 0) from by omega, if_true]
  refine Prod.ext ?_ ?_
  · show (n : Int) - 1 = _; omega
  · show (if (0 : Int) < 0 then max ((0 : Int) + (n : Int)) (-1) else min (0 : Int) ((n : Int) - 1)) = 0
    rw [if_neg (by omega)]; omega
theorem back_places (n : Nat) : Builtin.Slice.slicePlaces ((n : Nat) : Int) 0 (-1) = n := by
  unfold Builtin.Slice.slicePlaces
  simp only [show ¬ ((-1 : Int) > 0) from by omega, if_false, Int.neg_neg, Int.ediv_one]
  split <;> omega
theorem back_applied {sl : Addr} {vl vu vs : Value} {n : Nat} {Q : Int × Int × Nat → Shared → Prop} (h1 : 1 ≤ n) (hs : s.heap.IsSliceOf sl vl vu vs) (pl : IsPart vl none) (pu : IsPart vu (some 0)) (ps : IsPart vs (some (-1)))
    (h : Q (((n - 1 : Nat) : Int), -1, n - 1) s) : wpAny (model prog w) A (Builtin.Slice.sliceApplied (.ref sl) (pure (n : Int))) Q E s := by
  obtain ⟨os, ho, hc, hd⟩ := id hs
  unfold Builtin.Slice.sliceApplied Builtin.Slice.sliceFields
  refine wpAny_bind (wpAny_bind (wpAny_field ho hd (x := vl) rfl (wpAny_bind (wpAny_field ho hd (x := vu) rfl (wpAny_bind (wpAny_field ho hd (x := vs) rfl (wpAny_pure ?_)))))))
  refine wpAny_bind (HT.slicePart_ ps ?_)
  show wpAny _ _ (if ((-1 : Int) == 0) = true then _ else _) _ _ s
  rw [if_neg (by decide)]
  refine wpAny_bind (HT.slicePart_ pl (wpAny_bind (HT.slicePart_ pu (wpAny_bind (wpAny_pure ?_)))))
  show wpAny _ _ (match Builtin.Slice.sliceAdjust none (some 0) (-1) (n : Int) with | (lo, hi) => pure (lo, (-1 : Int), Builtin.Slice.slicePlaces lo hi (-1))) _ _ s
  rw [back_adjust n h1]
  show wpAny _ _ (pure (((n - 1 : Nat) : Int), (-1 : Int), Builtin.Slice.slicePlaces ((n - 1 : Nat) : Int) 0 (-1))) _ _ s
  rw [back_places]
  exact wpAny_pure h
theorem getItem_back {t sl : Addr} {items : Array Value} {vl vu vs : Value} {Q : Value → Shared → Prop} (h1 : 1 ≤ items.size) (ht : IsTup s.heap t items) (hs : s.heap.IsSliceOf sl vl vu vs) (pl : IsPart vl none) (pu : IsPart vu (some 0)) (ps : IsPart vs (some (-1)))
    (h : Q (.ref s.heap.objs.size) { s with heap := s.heap.push { cls := .type "tuple", data := .seq ((items.toList.drop 1).reverse).toArray } })
    (hsz : items.size ≤ sizeLine) : wpAny (model prog w) A (getItem (.ref t) (.ref sl)) Q E s := by
  have fits : sizeOk (.seq ((items.toList.drop 1).reverse).toArray) := by
    show ((items.toList.drop 1).reverse).toArray.size ≤ sizeLine
    simp only [List.size_toArray, List.length_reverse, List.length_drop, Array.length_toList]
    omega
  obtain ⟨os, ho, hc, hd⟩ := id hs
  have ty : s.TypeIs (.ref sl) "slice" := ⟨os, ho, hc⟩
  unfold getItem
  try with_reducible refine wpAny_holding ?_
  first | refine wpAny_bind (wpAny_pure ?_) | skip
  refine wpAny_bind (wpAny_sequenceKey ht.typeIs (by decide) ?_)
  refine wpAny_bind (wpAny_callSpecial?_slot (name := Str.ofString "__getitem__") ht.typeIs PyProof.Rows.slot_tuple_getitem
    (wpAny_call_entry PyProof.Rows.slot_tuple_getitem ht.typeIs F.entry_tuple_getitem ?_ (F.args_tuple_getitem_2 _ _)))
  show wpAny _ _ (Builtin.Tuple.tupleItemsOf (.ref t) >>= _) _ _ s
  refine wpAny_bind (tupleItemsOf_ ht ?_)
  refine wpAny_bind (wpAny_typeOf ty ?_)
  rw [if_pos (by decide)]
  refine wpAny_bind (back_applied (n := items.size) h1 hs pl pu ps ?_)
  have no : ¬ ((((items.size - 1 : Nat) : Int) == 0 && (-1 : Int) == 1 && (items.size - 1) == items.size) = true) := by simp
  show wpAny _ _ (if (((items.size - 1 : Nat) : Int) == 0 && (-1 : Int) == 1 && (items.size - 1) == items.size) = true then _ else _) _ _ s
  have e := back_pick1 items.toList (by simpa using h1)
  simp only [Array.length_toList, Array.getElem?_toList] at e
  rw [if_neg no, e]
  first
    | exact wpAny_bind (m := Builtin.Tuple.tupleExact _) (wpAny_newObj_type (wpAny_pure ⟨_, rfl, wpAny_pure h⟩) fits)
    | exact wpAny_bind (m := Builtin.Tuple.tupleExact _) (wpAny_newObj_type (wpAny_bind (wpAny_pure (wpAny_pure ⟨_, rfl, wpAny_pure h⟩))) fits)
    | exact wpAny_bind (wpAny_bind (m := Builtin.Tuple.tupleExact _) (wpAny_newObj_type (wpAny_pure (wpAny_pure ⟨_, rfl, wpAny_pure h⟩)) fits))
    | exact wpAny_bind (wpAny_bind (m := Builtin.Tuple.tupleExact _) (wpAny_newObj_type (wpAny_pure ⟨_, rfl, wpAny_pure h⟩) fits))
end
/-- what t[:0:-1] asks: t is not empty; the new tuple is told as an object that stands as it is -/
def tBackT (K : PySem.W.Frag) (te : TE) : TE := fun σ H Q => te σ H fun x H1 => ∃ a xs, x = .ref a ∧ SqT K H1 a xs ∧ xs ≠ [] ∧ ∀ p (o : Obj), H1 p = none → o.dict = none → o.slots = #[] → Q (.ref p) (upd H1 p (.frz o (.tup (xs.drop 1).reverse)))
section
variable {X : Cx}
theorem pe_cutback {e : Expr} {te : TE} {j k : Nat} {p0 p1 p2 p3 pos : Pos} (he : PE X e te) : PE X (.Subscript e (.Slice none (some (.Constant (.int 0) j p0)) (some (.UnaryOp .USub (.Constant (.int 1) k p1) p2)) p3) pos) (tBackT X.K te) := by
  refine ⟨fun pins s σ H Q I h => ?_⟩
  refine Subscript_ (thn (he.run pins s σ H _ I h) fun v s1 ⟨x, H1, I1, r1, q1⟩ => ?_)
  obtain ⟨a, xs, ex, hx, hne, fin⟩ := q1
  subst ex
  cases r1
  have hst : PO X (some (.UnaryOp .USub (.Constant (.int 1) k p1) p2)) (tPart (tUn (rU fun i => .int (-i)) (tC (.int 1)))) := po_some (pe_un un_neg pe_int)
  have hup : PO X (some (.Constant (.int 0) j p0)) (tPart (tC (.int 0))) := po_some pe_int
  refine wpAny_Slice (thn (po_none.run pins s1 σ H1 (fun o H2 => o = none ∧ H2 = H1) I1 ⟨rfl, rfl⟩) fun vl s2 ⟨l, H2, I2, pl, el, e2⟩ => ?_)
  subst el e2
  refine thn (hup.run pins s2 σ H2 (fun o H3 => o = some 0 ∧ H3 = H2) I2 ⟨0, rfl, rfl, rfl⟩) fun vu s3 ⟨u, H3, I3, pu, eu, e3⟩ => ?_
  subst eu e3
  refine thn (hst.run pins s3 σ H3 (fun o H4 => o = some (-1) ∧ H4 = H3) I3 ⟨1, rfl, -1, rfl, rfl, rfl⟩) fun vs s4 ⟨o, H4, I4, ps, eo, e4⟩ => ?_
  subst eo e4
  have I5 : Inv X pins σ H4 { s4 with heap := s4.heap.push { cls := .type "slice", data := .fields #[vl, vu, vs] } } := I4.kept (t' := s4.toks) fun b ob q => Heap.get?_push_of_some _ q
  obtain ⟨its, r, ht, hz⟩ := I5.tuple hx
  have hlen : its.length = xs.length := r.length.symm
  have h1 : 1 ≤ xs.length := by cases xs with | nil => exact absurd rfl hne | cons _ _ => simp
  show wpAny (model X.prog X.w) X.A (subscriptTail e (.Slice none (some (.Constant (.int 0) j p0)) (some (.UnaryOp .USub (.Constant (.int 1) k p1) p2)) p3) (.ref a) (.ref s4.heap.objs.size)) (EP X pins σ Q) X.xe { s4 with heap := s4.heap.push { cls := .type "slice", data := .fields #[vl, vu, vs] } }
  refine tail_any (ops := [.ref a, .ref s4.heap.objs.size]) ht.typeIs (PyProof.Rows.slot_tuple_getitem.lookup) ?_ (by with_unfolding_all rfl)
  refine getItem_back (by rw [List.size_toArray, hlen]; exact h1) ht (Heap.IsSliceOf.new _ vl vu vs) pl pu ps ?_ (by rw [List.size_toArray, hlen]; exact hz)
  refine ⟨.ref _, _, I5.laid (t' := s4.toks) (o := .frz { cls := .type "tuple", data := .seq ((its.drop 1).reverse).toArray } (.tup (xs.drop 1).reverse)) (fun b ob q => Heap.get?_push_of_some _ q) (Nat.le_refl _) ?_, rfl, fin _ _ (I5.hok.fresh (Nat.le_refl _)) rfl rfl⟩
  refine ⟨Heap.get?_push_size _ rfl, ?_, _, (r.drop 1).reverse, IsTup.new _ _⟩
  rw [List.length_reverse, List.length_drop]
  exact Nat.le_trans (Nat.sub_le _ _) hz
/-! ### tuple(l) of a list, told as an object that stands as it is -/
theorem call_tupleF : CallR X (.type "tuple") (fun xs H Q => ∃ p ys, xs = [.ref p] ∧ SqL X.K H p ys ∧ ∀ l (o : Obj), H l = none → o.dict = none → o.slots = #[] → Q (.ref l) (upd H l (.frz o (.tup ys)))) := by
  intro pins s σ H xs us Q I r hyp
  obtain ⟨p, ys, rfl, hq, fin⟩ := hyp
  obtain ⟨u, rfl, rx⟩ := vals1 r
  cases rx
  obtain ⟨its, r', pl, hz⟩ := I.list hq
  have w1 : its.length = ys.length := r'.length.symm
  refine call_tuple_list pl.isList (fun h' kp => ?_) (by rw [List.size_toArray, w1]; exact hz)
  have J : Inv X pins σ H { s with heap := h' } := I.kept (t' := s.toks) kp
  have J2 : Inv X pins σ (upd H h'.objs.size (.frz { cls := .type "tuple", data := .seq its.toArray } (.tup ys))) { s with heap := h'.push { cls := .type "tuple", data := .seq its.toArray } } :=
    J.laid (t' := s.toks) (fun b o e => Heap.get?_push_of_some _ e) (Nat.le_refl _) ⟨Heap.get?_push_size _ rfl, hz, its, r', IsTup.new _ _⟩
  exact ⟨.ref h'.objs.size, _, J2, rfl, fin _ _ (J.hok.fresh (Nat.le_refl _)) rfl rfl⟩
/-! ### dict(t) of a tuple of pairs -/
theorem pairs_list {pins : List (Addr × Obj)} {σ : L2.St} {H : Hp} {s : Shared} (I : Inv X pins σ H s) : ∀ {ps : List Addr} {kvs : List (Key × V)}, Paired (fun p kv => SqT X.K H p [kV kv.1, kv.2]) ps kvs →
    ∃ (prs : List (Key × Value)) (psv : List (Value × Value)), KV kvs prs ∧ prs.length = ps.length ∧ psv.length = ps.length ∧ ∀ (j : Nat) (u v : Value), psv[j]? = some (u, v) → ∃ b k, ps[j]? = some b ∧ prs[j]? = some (k, v) ∧ IsTup s.heap b #[u, v] ∧ keyIs k u = true
  | _, _, .nil => ⟨[], [], .nil, rfl, rfl, fun j u v e => by simp at e⟩
  | _, _, .cons (a := p) (b := kv) h t => by
    obtain ⟨prs, psv, r, l1, l2, hp⟩ := pairs_list I t
    obtain ⟨its, rv, ht, _⟩ := I.tuple h
    obtain ⟨u, y, ei, ru, ry⟩ := vals2 rv
    subst ei
    refine ⟨(kv.1, y) :: prs, (u, y) :: psv, .cons ⟨rfl, ry⟩ r, by simp [l1], by simp [l2], fun j u' v' e => ?_⟩
    cases j with
    | zero =>
      cases (Option.some.inj e)
      exact ⟨p, kv.1, rfl, rfl, ht, kV_is (P := X.prog) (w := X.w) ru⟩
    | succ j => exact hp j u' v' (by simpa using e)
theorem call_dictT (hcalm : X.calm = true) : CallR X (.type "dict") (fun xs H Q => ∃ (a : Addr) (o : Obj) (ps : List Addr) (kvs : List (Key × V)), xs = [.ref a] ∧ H a = some (.frz o (.tup (ps.map V.ref))) ∧ o.dict = none ∧ Paired (fun p kv => SqT X.K H p [kV kv.1, kv.2]) ps kvs ∧
    ∀ p, H p = none → Q (.ref p) (upd H p (.dK (mergeK [] kvs)))) := by
  intro pins s σ H xs us Q I r hyp
  obtain ⟨a, o, ps, kvs, ex, hq, hd, hp, fin⟩ := hyp
  subst ex
  obtain ⟨u, eu, rx⟩ := vals1 r
  subst eu
  cases rx
  obtain ⟨e2, hz, its, rv, hT⟩ := (show ObjOk X.prog X.w H s.heap a (.frz o (.tup (ps.map V.ref))) from I.hok a _ hq)
  obtain ⟨o2, e3, hc2, n2, hd2⟩ := hT
  rw [e2] at e3
  cases e3
  have ei := refs_at rv
  subst ei
  rw [List.length_map] at hz
  obtain ⟨prs, psv, rel, l1, l2, hpr⟩ := pairs_list I hp
  have items : PairItems s.heap (ps.map Value.ref).toArray (fun j => ps.getD j 0) psv := by
    refine ⟨by simp [l2], fun j k v e => ?_⟩
    obtain ⟨b, k', e1, _, e4, _⟩ := hpr j k v e
    refine ⟨by simp [e1], ?_⟩
    have eb : ps.getD j 0 = b := by simp [List.getD, e1]
    show PairAt s.heap (ps.getD j 0) k v
    rw [eb]
    exact .inl e4
  refine PySem.call_dict_pairs (knd := mixKind X.prog X.w) (kvs := prs) (PairArg.tuple a (ps.map Value.ref).toArray (fun j => ps.getD j 0) psv) (I.ok.hd hcalm) ⟨⟨o, n2, e2, hc2, hd, hd2⟩, items⟩ ⟨by rw [l1, l2], fun i key v e => ?_⟩ (by rw [l2]; exact hz) fun h' tk hd' k => ?_
  · obtain ⟨b, k', _, e5, _, e6⟩ := hpr i key v e
    exact ⟨k', e5, e6⟩
  · have hm : (s.heap.objs.size == sysModules) = false := beq_eq_false_iff_ne.mpr (Nat.ne_of_gt I.big)
    have few : (mergeK [] kvs).length ≤ sizeLine := by
      have z := length_mergeK kvs []
      rw [List.length_nil, Nat.zero_add, rel.length, l1] at z
      exact Nat.le_trans z hz
    exact ⟨.ref s.heap.objs.size, _, I.laid (t' := tk) (fun b o q => k b o (by simp) q) (Nat.le_refl _) (show ObjOk X.prog X.w _ _ _ (.dK (mergeK [] kvs)) from ⟨few, hm, merged [] prs, KV.merge rel .nil, hd'⟩), rfl, fin _ (I.hok.fresh (Nat.le_refl _))⟩
end
end Kx
namespace Kx
open PySem PySem.Spec PyProof.Rows L2
/-- a block cut behind its first statement: what holds there is named -/
theorem pss_cutK {X : Cx} {st : Stmt} {rest : List Stmt} {t u : TS} (h1 : PS X st t) (h2 : PSs X rest u) :
    PSs X (st :: rest) (fun D σ H => ∃ Mid : L2.St → Hp → Prop, t { D with nx := Mid } σ H ∧ ∀ σ' H', Mid σ' H' → u D σ' H') := Evl.pss_cut h1 h2
end Kx
namespace Kx
open PySem PySem.Spec PyProof.Rows L2
section
variable {X : Cx}
/-- a test, an expression, with a word behind it: what follows is shown once -/
theorem pt_cut {e : Expr} {t : TT} (h : PT X e t) : PT X e (fun σ H Q => ∃ M : Bool → Hp → Prop, t σ H M ∧ ∀ b H1, M b H1 → Q b H1) :=
  ⟨fun pins s σ H Q I ⟨M, hm, k⟩ => thn (h.run pins s σ H M I hm) fun b s1 ⟨H1, I1, q⟩ => ⟨H1, I1, k b H1 q⟩⟩
theorem pe_cut {e : Expr} {t : TE} (h : PE X e t) : PE X e (fun σ H Q => ∃ M : VK, t σ H M ∧ ∀ v H1, M v H1 → Q v H1) :=
  ⟨fun pins s σ H Q I ⟨M, hm, k⟩ => thn (h.run pins s σ H M I hm) fun b s1 ⟨v, H1, I1, r, q⟩ => ⟨v, H1, I1, r, k v H1 q⟩⟩
end
end Kx
namespace Kx
open PySem PySem.Spec PyProof.Rows L2
/-- a comprehension without a test: its element is asked -/
theorem yes_if {σ : L2.St} {H : Hp} {A B : Hp → Prop} (h : A H) : tYes σ H (fun b H3 => if b = true then A H3 else B H3) := by
  have e : (if true = true then A H else B H) := iteT h
  exact e
end Kx
set_option maxHeartbeats 1000000
/-! for i, x in enumerate(t): a tuple. -/
namespace Kx
open PySem PySem.Spec PyProof.Rows L2
open AutoSeq1 (wpAny_loadPart')
theorem enum_made (t : Addr) (its : Array Value) (n : Nat) (dd : Option Addr) (sl : Array (Option Value)) :
    Meets (Builtin.«enumerate.__new__» ⟨[.type "enumerate", .ref t], []⟩) (fun _ R s => s.heap.get? t = some { cls := .type "tuple", dict := dd, data := .seq its n, slots := sl } ∧
      R (.ok (.ret (.ref (s.heap.push { cls := .type "tuple_iterator", data := .fields #[.ref t, .int 0 0] }).objs.size)))
        { s with heap := (s.heap.push { cls := .type "tuple_iterator", data := .fields #[.ref t, .int 0 0] }).push { cls := .type "enumerate", data := .fields #[.none, .bool false, .ref s.heap.objs.size, rawInt 0, .none, .none] } }) :=
  .of_wp fun prog w A R s h => by
    obtain ⟨hp, g, d, tk, os⟩ := s
    obtain ⟨ht, q⟩ := h
    have sub := sub_enumerate
    have T : Heap.IsTuple (Shared.heap ⟨hp, g, d, tk, os⟩) t its := ⟨_, ht, rfl, n, rfl⟩
    wp_walk using wpAny_loadPart' ht
    refine wpAny_stack_any fun _ => wpAny_pure ?_
    split
    · rename_i c _ _ _ _ _
      cases (c == Value.type "enumerate") <;> (wp_walk using wpAny_loadPart' ht, wpAny_pyIter_tuple T; exact ⟨_, rfl, q⟩)
    · wp_walk using wpAny_loadPart' ht, wpAny_pyIter_tuple T
      exact ⟨_, rfl, q⟩
theorem call_enumT {prog : Program} {w : World} {A : Around} {E : Value → Shared → Prop} {s : Shared} {t : Addr} {its : Array Value} {Q : Value → Shared → Prop} (ht : s.heap.IsTuple t its)
    (q : ∀ g, IsEnum g (s.heap.objs.size + 1) s.heap.objs.size 0 .none → g.IsTupleIter s.heap.objs.size t 0 → (∀ b o, s.heap.get? b = some o → g.get? b = some o) → Q (.ref (s.heap.objs.size + 1)) { s with heap := g }) :
    wpAny (model prog w) A (call (.type "enumerate") [.ref t]) Q E s := by
  obtain ⟨⟨c, dd, da, sl⟩, e, ec, n, ed⟩ := ht
  change c = .type "tuple" at ec
  change da = .seq its n at ed
  subst ec ed
  refine callType_new F.called_enumerate (by decide) (F.typeCall_enumerate_1 _) (F.newCall_enumerate_1 _) (fun x => F.args_object_init_2 x _) F.entry_enumerate_new (enum_made t its n dd sl) ⟨e, ?_⟩
  have z : (s.heap.push { cls := .type "tuple_iterator", data := .fields #[.ref t, .int 0 0] }).objs.size = s.heap.objs.size + 1 := Heap.size_push ..
  show _ ∧ _
  rw [z]
  have f : IsEnum ((s.heap.push { cls := .type "tuple_iterator", data := .fields #[.ref t, .int 0 0] }).push { cls := .type "enumerate", data := .fields #[.none, .bool false, .ref s.heap.objs.size, rawInt 0, .none, .none] }) (s.heap.objs.size + 1) s.heap.objs.size 0 .none := by
    rw [← z]
    exact Heap.get?_push_size _ rfl
  exact ⟨⟨_, f, rfl⟩, q _ f ⟨_, Heap.get?_push_of_some _ (Heap.get?_push_size _ rfl), rfl, rfl⟩ fun b o x => Heap.get?_push_of_some _ (Heap.get?_push_of_some _ x)⟩
/-- the tuple at a, each item in a new pair -/
def IteT (K : PySem.W.Frag) (a : Addr) : It :=
  ⟨fun i H => ∃ (xs : List V) (x : V), SqT K H a xs ∧ xs[i]? = some x, fun i H v H' => ∃ t x, v = .ref t ∧ H t = none ∧ H' = upd H t (.tup [.int (i : Nat), x]) ∧ ∀ xs, SqT K H a xs → xs[i]? = some x, fun i H => ∃ xs : List V, SqT K H a xs ∧ i = xs.length⟩
theorem turn_enumT {P : Program} {w : World} {K : PySem.W.Frag} {elts : List Expr} {kk : Nat} {tpos : Pos} {a e j : Addr} (na : a ≠ j) (ne : e ≠ j) (nea : e ≠ a) :
    Turn P w K (.Tuple elts kk tpos) (IteT K a) [e, j] e (fun i h => (∃ old, IsEnum h e j ((i : Nat) : Int) old) ∧ h.IsTupleIter j a i) where
  mem := List.mem_cons_self ..
  obj := by
    rintro i h ⟨⟨old, h1⟩, ⟨o, h2, _, d2⟩⟩ c hc
    simp only [List.mem_cons, List.not_mem_nil, or_false] at hc
    rcases hc with rfl | rfl
    · exact ⟨_, h1, fun v q => nomatch q⟩
    · exact ⟨o, h2, fun v q => by rw [d2] at q; cases q⟩
  keep := by
    rintro i h h' ⟨⟨old, h1⟩, h2⟩ k
    exact ⟨⟨old, k e (by simp) _ h1⟩, h2.at fun o q => k j (by simp) o q⟩
  item := by
    intro X hP hw hK hc i pins s σ H E I hf st hg
    subst hP hw hK
    obtain ⟨⟨old, h1⟩, h2⟩ := st
    obtain ⟨xs, x, hq, hx⟩ := hg
    obtain ⟨its, rv, p, _⟩ := I.tuple hq
    obtain ⟨u, hu, ru⟩ := rv.get hx
    have hh : X.A.handled = none := I.ok.hd hc
    have b1 : i < its.toArray.size := by simpa using (List.getElem?_eq_some_iff.mp hu).1
    have el : e < s.heap.objs.size := Heap.lt_size h1
    have nf : e ∉ [j, a] := by simp only [List.mem_cons, List.not_mem_nil, or_false, not_or]; exact ⟨ne, nea⟩
    refine wpAny_pyNext_enum_itemD (Draws.tuple (A := X.A.in1) hh j a na its.toArray) h1 ⟨h2, p⟩ b1 ne nf fun v g tk e1 g1 g2 gT gs gk => ?_
    have q1 : v = u := by simpa [hu] using e1.symm
    subst q1
    refine ⟨_, rfl, wpAny_letOwnedTupleGo_enum (s := { s with heap := g, toks := tk + 1 }) g1 fun g' k1 sb => ?_⟩
    have out : ∀ c, c ≠ e → g'.get? c = g.get? c := fun c n => sb.2 c n
    have nw : g'.get? s.heap.objs.size = some { cls := .type "tuple", data := .seq #[.int i tk, v] } := (out _ (Nat.ne_of_gt el)).trans gT
    have made : ObjOk X.prog X.w (upd H s.heap.objs.size (.tup [.int (i : Nat), x])) g' s.heap.objs.size (.tup [.int (i : Nat), x]) := ⟨by show 2 ≤ sizeLine; decide, [.int i tk, v], .cons ⟨_, rfl⟩ (.cons ru .nil), ⟨_, nw, rfl, _, rfl⟩⟩
    have J := I.turnedNew (t' := tk + 1) (ch := [e, j]) (fun c o n y => by
      simp only [List.mem_cons, List.not_mem_nil, or_false, not_or] at n
      exact (out c n.1).trans (gk c o n.1 n.2 y)) hf (Nat.le_refl _) made
    refine ⟨.ref s.heap.objs.size, _, J, rfl, ⟨_, x, rfl, I.hok.fresh (Nat.le_refl _), rfl, fun l hl => by rw [I.tuple_inj hl hq]; exact hx⟩, ⟨⟨v, ?_⟩, ?_⟩, fun c hcm => ?_⟩
    · have ei : ((i + 1 : Nat) : Int) = (i : Int) + 1 := by omega
      rw [ei]; exact k1
    · exact g2.1.at fun o q => (out _ ne.symm).trans q
    · have lt : c < s.heap.objs.size := by
        simp only [List.mem_cons, List.not_mem_nil, or_false] at hcm
        rcases hcm with q | q
        · rw [q]; exact el
        · rw [q]; obtain ⟨_, y, _⟩ := h2; exact Heap.lt_size y
      rw [upd_ne (Nat.ne_of_lt lt)]
      exact (hf c hcm).1
  done := by
    intro X hP hw hK hc i pins s σ H E I hf st hg
    subst hP hw hK
    obtain ⟨⟨old, h1⟩, h2⟩ := st
    obtain ⟨xs, hq, l1⟩ := hg
    obtain ⟨its, rv, p, _⟩ := I.tuple hq
    have hh : X.A.handled = none := I.ok.hd hc
    have m1 : i = its.toArray.size := by rw [List.size_toArray, ← rv.length]; exact l1
    subst m1
    obtain ⟨f0, f1, f2, f3, f4, f5⟩ := hf j (by simp)
    refine wpAny_pyNext_enum_endD (Draws.tuple (A := X.A.in1) hh j a na its.toArray) h1 ⟨h2, p⟩ fun g eb => ⟨rfl, I.turned (t' := s.toks) (fun b o hb q => eb b o hb q) f0 f1 f3 f4 f5⟩
  self := fun A i s Q E st h => let ⟨⟨_, y⟩, _⟩ := st; wpAny_pyIter_enum y h
def iEnumT (K : PySem.W.Frag) (ta : TA) : TI := fun σ H R => ta σ H fun vs H1 => ∃ a xs, vs = [.ref a] ∧ SqT K H1 a xs ∧ R (IteT K a) H1
theorem pi_enumT {X : Cx} {e : Expr} {ta : TA} {p pos tpos : Pos} {elts : List Expr} {kk : Nat} (hg : Gl X "enumerate") (hm : X.mg "enumerate" = none) (ha : PA X [e] ta) (hs : starEach [e] X.env = [(false, eval e X.env)] := by rfl) :
    PI X (.Tuple elts kk tpos) (.Call (.Name "enumerate" p) [e] [] pos) (iEnumT X.K ta) := by
  refine ⟨fun pins s σ H R I h => Call_ (ld_blt I hg hm boot_enumerate (PyProof.Rows.callWith_type1 (thn (ha.run pos pins s σ H _ I h) fun us s1 ⟨vs, H1, J, rel, a, xs, ex, hx, q⟩ => ?_) hs rfl))⟩
  subst ex
  obtain ⟨u, rfl, r1⟩ := vals1 rel
  cases r1
  obtain ⟨its, _, p1, _⟩ := J.tuple hx
  have la : a < s1.heap.objs.size := by obtain ⟨o, ho, _⟩ := id p1; exact Heap.lt_size ho
  refine call_enumT p1 fun g y1 y2 kp => wpAny_pyIter_enum y1 ?_
  have J2 : Inv X pins σ H1 { s1 with heap := g } := J.kept (t' := s1.toks) kp
  refine ⟨s1.heap.objs.size + 1, [s1.heap.objs.size + 1, s1.heap.objs.size], _, _, H1, rfl, J2, turn_enumT (a := a) (e := s1.heap.objs.size + 1) (j := s1.heap.objs.size) (Nat.ne_of_lt la) (Nat.succ_ne_self _) (Nat.ne_of_gt (Nat.lt_succ_of_lt la)), ⟨⟨.none, y1⟩, y2⟩, fun c hc => ?_, q⟩
  have le : s1.heap.objs.size ≤ c := by
    rcases List.mem_cons.mp hc with e | e
    · rw [e]; exact Nat.le_succ _
    · rw [List.mem_singleton.mp e]; exact Nat.le_refl _
  exact J.fpOk le (J.hok.fresh le)
/-- the loop over it -/
theorem for_enumT {K : PySem.W.Frag} {a : Addr} {xs : List V} {g : TG} {tb : TS} {D : Ends} {σ : L2.St} {H : Hp} (Pv : Nat → L2.St → Hp → Prop) (h0 : Pv 0 σ H) (hq : ∀ i σ H, Pv i σ H → SqT K H a xs)
    (hs : ∀ (i : Nat) (x : V) (t : Addr) (σ : L2.St) (H : Hp), xs[i]? = some x → Pv i σ H → H t = none → g (.ref t) σ (upd H t (.tup [.int (i : Nat), x])) fun σ2 H2 => tb { D with nx := Pv (i + 1), ct := Pv (i + 1), bk := D.nx } σ2 H2) (hd : ∀ σ H, Pv xs.length σ H → D.nx σ H) :
    ∃ W : Nat → Nat → L2.St → Hp → Prop, (∃ m, W 0 m σ H) ∧ ∀ i m σ H, W i m σ H →
      ((IteT K a).stop i H ∧ D.nx σ H) ∨ ((IteT K a).go i H ∧ ∃ N : L2.St → Hp → Prop, (∀ σ' H', N σ' H' → ∃ m', m' < m ∧ W (i + 1) m' σ' H') ∧ ∀ v H', (IteT K a).yld i H v H' → g v σ H' fun σ2 H2 => tb { D with nx := N, ct := N, bk := D.nx } σ2 H2) := by
  refine ⟨fun i m σ H => m = xs.length - i ∧ i ≤ xs.length ∧ Pv i σ H, ⟨_, rfl, Nat.zero_le _, h0⟩, fun i m σ H w => ?_⟩
  obtain ⟨rfl, le, pv⟩ := w
  have qx := hq i σ H pv
  rcases Nat.lt_or_ge i xs.length with lt | ge
  · have ex : xs[i]? = some xs[i] := List.getElem?_eq_getElem lt
    refine .inr ⟨⟨xs, _, qx, ex⟩, Pv (i + 1), fun σ' H' p' => ⟨xs.length - (i + 1), by omega, rfl, lt, p'⟩, ?_⟩
    rintro v H' ⟨t, x, rfl, nt, rfl, kx⟩
    exact hs i x t σ H (kx xs qx) pv nt
  · have e : i = xs.length := Nat.le_antisymm le ge
    exact .inl ⟨⟨xs, qx, e⟩, hd σ H (e ▸ pv)⟩
end Kx
set_option maxHeartbeats 1000000
/-! set(xs) of texts, sorted(set(xs)), len(set(xs)). -/
namespace Kx
open PySem PySem.Spec PyProof.Rows L2
/-- a set's payload that can be walked: its places rise, and it is laid as the text says or drawn -/
structure Lain (w : World) (D : Froz.SD) : Prop where
  ris : Ris D.2.2.place.toList
  led : w.params.followText "set-order" = true ∨ D.2.2.led = true
theorem lain_plain {w : World} {es : Array (Int × Value)} {n : Nat} {t : SetTable} (L : Lain w (es, n, t)) (b : Bool) : Lain w (es, n, { t with plain := b }) := ⟨L.1, L.2⟩
theorem lain_tail {w : World} {n : Nat} {es : Array (Int × Value)} {t : SetTable} {b : Bool} (L : Lain w (es, n, t)) : Lain w (Froz.tailTx n es t b) := by
  unfold Froz.tailTx
  by_cases c : (!b && t.tooFull) = true
  · rw [if_pos c]
    exact ⟨relayAll_ris t es _, L.led.imp id fun z => (relayAll_led t es _).trans z⟩
  · rw [if_neg c]
    exact ⟨L.1, L.2⟩
theorem lain_add {w : World} {D : Froz.SD} (h : Int) (v : Value) (L : Lain w D) : Lain w (Froz.addTx h v D) := by
  unfold Froz.addTx
  have r := layNew_ris D.2.2 D.1 h v L.ris
  have l := layNew_led D.2.2 D.1 h v
  have M : Lain w ((layNew D.2.2 D.1 h v).1, D.2.1, (layNew D.2.2 D.1 h v).2.1) := ⟨r, L.led.imp id fun z => l.trans z⟩
  refine lain_tail ?_
  by_cases c : (layNew D.2.2 D.1 h v).2.1.plain = true
  · rw [if_pos c]; exact lain_plain M false
  · rw [if_neg c]; exact ⟨M.1, M.2⟩
/-- the set at a holds the texts zs, each once -/
def SetZ (P : Program) (w : World) (h : Heap) (a : Addr) (zs : List Str) : Prop := ∃ D, h.get? a = some (Froz.sObj "set" D) ∧ Froz.TxOk P w D zs ∧ Lain w D ∧ zs.Nodup
section
variable {P : Program} {w : World} {A : Around} {E : Value → Shared → Prop} {s : Shared}
theorem SetZ.at {h h' : Heap} {a : Addr} {zs : List Str} (Z : SetZ P w h a zs) (k : ∀ o, h.get? a = some o → h'.get? a = some o) : SetZ P w h' a zs := by
  obtain ⟨D, e, r⟩ := Z
  exact ⟨D, k _ e, r⟩
/-- a text more -/
def put1 (zs : List Str) (z : Str) : List Str := if z ∈ zs then zs else z :: zs
theorem put1_mem {zs : List Str} {z y : Str} : y ∈ put1 zs z ↔ y = z ∨ y ∈ zs := by
  unfold put1
  by_cases c : z ∈ zs
  · rw [if_pos c]
    constructor
    · exact .inr
    · rintro (rfl | h)
      · exact c
      · exact h
  · rw [if_neg c]; exact List.mem_cons
theorem put1_len (zs : List Str) (z : Str) : (put1 zs z).length ≤ zs.length + 1 := by
  unfold put1
  split
  · omega
  · simp
theorem setZ_add {a : Addr} {zs : List Str} {z : Str} {u : Tok} {Q : Bool → Shared → Prop} (Z : SetZ P w s.heap a zs) (room : zs.length + 1 < scanBound)
    (q : ∀ b g, Heap.SameBut a s.heap g → SetZ P w g a (put1 zs z) → Q b { s with heap := g }) : wpAny (model P w) A (setAddHashed a (.str z u) (hashStr w z)) Q E s := by
  obtain ⟨D, e, T, L, nd⟩ := id Z
  by_cases c : z ∈ zs
  · obtain ⟨es, n, t⟩ := D
    have hm : ∃ x ∈ es.toList, (strKind P w).is z x.2 = true := (T.mem z).mp c
    have hel : ElemsOf (strKind P w) es.toList := T.el
    have hs : es.size = zs.length := T.sz
    have hf : t.fits es.size = true := T.fit
    have hd : (Froz.sObj "set" (es, n, t)).data = .set es n t := rfl
    have hk : (strKind P w).is z (.str z u) = true := Froz.is_str z u
    have hb : es.size < scanBound := by omega
    unfold setAddHashed setAddHashedIn
    refine wpAny_holding (wpAny_bind (wpAny_setState_of e hd hf ?_))
    dsimp only
    rw [byScan_of rfl hb hel, if_pos rfl]
    unfold setAddByScan
    refine wpAny_bind (wpAny_bind (wpAny_rule (wpAny_bind (wpAny_setScan_of (knd := strKind P w) (k := z) hk e hd hf hel ?_))))
    cases hr : List.findIdx? (fun x => (strKind P w).is z x.2) es.toList with
    | none =>
      obtain ⟨x, hx, px⟩ := hm
      have := List.findIdx?_eq_none_iff.mp hr x hx
      rw [px] at this
      cases this
    | some j =>
      refine wpAny_pure (wpAny_pure ?_)
      have e1 : put1 zs z = zs := if_pos c
      exact q _ s.heap (Heap.SameBut.refl a s.heap) (by rw [e1]; exact Z)
  · refine Froz.add_x e T c room (q _ _ (Heap.SameBut.update s.heap a _) ⟨_, Froz.get_upd _ e rfl, ?_, lain_add _ _ L, ?_⟩)
    · have e1 : put1 zs z = z :: zs := if_neg c
      rw [e1]; exact Froz.add_ok u T
    · have e1 : put1 zs z = z :: zs := if_neg c
      rw [e1]; exact List.nodup_cons.mpr ⟨c, nd⟩
/-- the texts of a list, each once -/
def distinct (ws : List Str) : List Str := ws.foldl put1 []
theorem distinct_mem {y : Str} : ∀ (ws zs : List Str), y ∈ ws.foldl put1 zs ↔ y ∈ zs ∨ y ∈ ws
  | [], zs => by simp
  | x :: r, zs => by
    rw [List.foldl_cons, distinct_mem r, put1_mem, List.mem_cons]
    constructor
    · rintro ((h | h) | h)
      · exact .inr (.inl h)
      · exact .inl h
      · exact .inr (.inr h)
    · rintro (h | h | h)
      · exact .inl (.inr h)
      · exact .inl (.inl h)
      · exact .inr h
theorem distinct_len : ∀ (ws zs : List Str), (ws.foldl put1 zs).length ≤ zs.length + ws.length
  | [], zs => by simp
  | x :: r, zs => by
    have a := distinct_len r (put1 zs x)
    have b := put1_len zs x
    rw [List.foldl_cons, List.length_cons]
    omega
theorem setZ_loop {I : Addr} {fp wr : List Addr} {G : Array GenState → Array GenState → Prop} {n : Nat} {Pv : Nat → Value → Prop} {St : Nat → Shared → Prop} {R : Result → Shared → Prop} {a : Addr} {ws : List Str}
    (W : WalksS P w A.in1 I fp wr G n Pv St) (out : a ∉ fp) (hn : n = ws.length) (few : ws.length + 1 < scanBound) (hv : ∀ i v, Pv i v → ∃ z u, ws[i]? = some z ∧ v = .str z u) :
    ∀ (m i : Nat) (s : Shared), m + i = n → St i s → SetZ P w s.heap a (distinct (ws.take i)) → (∀ s', Moved (a :: wr) G s s' → SetZ P w s'.heap a (distinct ws) → R (.ok (.ret .none)) s') →
      codeAny (model P w) A (.builtin "set.update.loop" ⟨[.ref a, .ref I], []⟩) R s
  | 0, i, s, hi, st, Z, q => by
    have ei : i = n := by omega
    subst ei
    have all : ws.take i = ws := List.take_of_length_le (by omega)
    rw [all] at Z
    refine codeAny_builtin F.entry_set_update_loop ?_
    rw [Around.under_plainId F.plain_set_update_loop _]
    show wpAny _ A.in1 (pyNext (.ref I) >>= _) _ _ _
    exact wpAny_bind (W.done s _ _ st fun s' m => wpAny_pure (q s' (m.mono fun b h => List.mem_cons_of_mem _ h) (Z.at fun o e => m.heap a o (fun h => out (W.sub _ h)) e)))
  | m + 1, i, s, hi, st, Z, q => by
    refine codeAny_builtin F.entry_set_update_loop ?_
    rw [Around.under_plainId F.plain_set_update_loop _]
    show wpAny _ A.in1 (pyNext (.ref I) >>= _) _ _ _
    refine wpAny_bind (W.item i s _ _ (by omega) st fun v s1 pv st1 mv => ?_)
    obtain ⟨z, u, ez, rfl⟩ := hv i v pv
    have Z1 := Z.at (h' := s1.heap) fun o e => mv.heap a o (fun h => out (W.sub _ h)) e
    show wpAny _ A.in1 (holding [Value.str z u] (setAdd a (.str z u)) >>= _) _ _ _
    refine wpAny_bind (wpAny_holding ?_)
    unfold setAdd
    refine wpAny_holding (wpAny_bind ((strKind P w).pyHash (Froz.is_str z u) ?_))
    have l1 := distinct_len (ws.take i) []
    rw [List.length_take] at l1
    refine setZ_add (s := { s1 with toks := s1.toks + 1 }) Z1 (by unfold distinct; simp only [List.length_nil] at l1; omega) fun b g sb Z2 => ?_
    have Z3 : SetZ P w g a (distinct (ws.take (i + 1))) := by
      have e2 : ws.take (i + 1) = ws.take i ++ [z] := by
        rw [List.take_add_one, ez]
        rfl
      rw [e2]
      unfold distinct
      rw [List.foldl_append]
      exact Z2
    refine wpAny_pure ⟨plainId_quiet F.plain_set_update_loop _, setZ_loop W out hn few hv m (i + 1) _ (by omega) (W.frame _ s1 _ _ st1 (Nat.le_succ _) fun b' hb o e => ?_) Z3 fun s2 m2 Z4 => q s2 (Moved.trans W.gtrans ((mv.mono fun b' h => List.mem_cons_of_mem _ h).then_heap (Nat.le_succ _) fun b' o hb e => ?_) m2) Z4⟩
    · exact (sb.2 b' fun h => out (by rw [← h]; exact hb)).trans e
    · exact (sb.2 b' fun h => hb (by rw [h]; exact List.mem_cons_self ..)).trans e
/-- a new set's object -/
def bareSet (w : World) : Obj := { cls := .type "set", dict := none, data := .set #[] 0 (.fresh 0 0 (!w.params.followText "set-order")) }
theorem bare_at {h : Heap} {a : Addr} (e : h.get? a = some (bareSet w)) : SetZ P w h a [] := by
  refine ⟨(#[], 0, .fresh 0 0 (!w.params.followText "set-order")), e, Froz.TxOk.nil rfl, ⟨List.Pairwise.nil, ?_⟩, List.nodup_nil⟩
  show _ ∨ (!w.params.followText "set-order") = true
  cases w.params.followText "set-order"
  · exact .inr rfl
  · exact .inl rfl
end
end Kx
/-! set(xs), sorted of it, its length. -/
namespace Kx
open PySem PySem.Spec PyProof.Rows L2
section
variable {P : Program} {w : World} {A : Around} {E : Value → Shared → Prop} {s : Shared}
theorem init_strs {b : Heap} {l : Addr} {its : Array Value} {ws : List Str} {R : Result → Shared → Prop} {n : Nat} {dd : Option Addr} {sl : Array (Option Value)} (calm : A.handled = none) (few : ws.length + 1 < scanBound) (r : StrsAre its.toList ws)
    (eb : s.heap.get? l = some { cls := .type "list", dict := dd, data := .seq its n, slots := sl }) (k : ∀ g tk, SetZ P w g s.heap.objs.size (distinct ws) → (∀ b o, s.heap.get? b = some o → g.get? b = some o) → R (.ok (.ret .none)) { s with heap := g, toks := tk }) :
    codeAny (model P w) A (.builtin "set.update.loop" ⟨[.ref s.heap.objs.size, .ref (s.heap.objs.size + 1)], []⟩) R
      { s with heap := (s.heap.push (bareSet w)).push { cls := .type "list_iterator", data := .fields #[.ref l, .int 0 0] } } := by
  have ll : l < s.heap.objs.size := Heap.lt_size eb
  have z1 : (s.heap.push (bareSet w)).objs.size = s.heap.objs.size + 1 := Heap.size_push ..
  have nl : l ≠ s.heap.objs.size + 1 := Nat.ne_of_lt (Nat.lt_succ_of_lt ll)
  have out : s.heap.objs.size ∉ [s.heap.objs.size + 1, l] := fun h => by
    rcases List.mem_cons.mp h with h | h
    · exact absurd h (Nat.ne_of_lt (Nat.lt_succ_self _))
    · exact absurd (List.mem_singleton.mp h) (Nat.ne_of_gt ll)
  have ln : its.size = ws.length := by
    have := StrsAre.length r
    rw [Array.length_toList] at this
    exact this
  have at0 : ((s.heap.push (bareSet w)).push { cls := .type "list_iterator", data := .fields #[.ref l, .int 0 0] }).get? (s.heap.objs.size + 1) = some { cls := .type "list_iterator", data := .fields #[.ref l, .int 0 0] } := by
    rw [← z1]
    exact Heap.get?_push_size _ rfl
  have it0 : Heap.IsListIter ((s.heap.push (bareSet w)).push { cls := .type "list_iterator", data := .fields #[.ref l, .int 0 0] }) (s.heap.objs.size + 1) l 0 := ⟨_, at0, rfl, rfl⟩
  have li0 : Heap.IsList ((s.heap.push (bareSet w)).push { cls := .type "list_iterator", data := .fields #[.ref l, .int 0 0] }) l its := ⟨_, Heap.get?_push_of_some _ (Heap.get?_push_of_some _ eb), rfl, n, rfl⟩
  refine setZ_loop (A := A) ((Walks.list (prog := P) (w := w) (A := A.in1) (by simp [calm]) (s.heap.objs.size + 1) l nl its).toS) out ln few (fun i v ev => ?_) its.size 0 _ (by omega) ⟨it0, li0⟩ (bare_at (Heap.get?_push_of_some _ (Heap.get?_push_size _ rfl))) fun s' mv Z => ?_
  · obtain ⟨u, e⟩ := SS.strs_at r i v (by rw [Array.getElem?_toList]; exact ev)
    have hi : i < ws.length := by rw [← ln]; exact (Array.getElem?_eq_some_iff.mp ev).1
    refine ⟨ws[i], u, List.getElem?_eq_getElem hi, ?_⟩
    rw [e, List.getD_eq_getElem?_getD, List.getElem?_eq_getElem hi] <;> rfl
  · have g0 : s'.gens = s.gens := mv.gens
    have d0 : s'.drawn = s.drawn := mv.drawn
    have o0 : s'.os = s.os := mv.os
    have e : s' = { s with heap := s'.heap, toks := s'.toks } := by
      obtain ⟨h', g', d', t', o'⟩ := s'
      dsimp only at g0 d0 o0
      subst g0 d0 o0
      rfl
    rw [e]
    refine k s'.heap s'.toks Z fun b o eo => mv.heap b o (fun h => ?_) (Heap.get?_push_of_some _ (Heap.get?_push_of_some _ eo))
    have lt := Heap.lt_size eo
    rcases List.mem_cons.mp h with h | h
    · exact absurd h (Nat.ne_of_lt lt)
    · exact absurd (List.mem_singleton.mp h) (Nat.ne_of_lt (Nat.lt_succ_of_lt lt))
end
section
variable {P : Program} {w : World} {A : Around} {E : Value → Shared → Prop} {s : Shared}
set_option maxHeartbeats 3200000 in
theorem call_setZ {l : Addr} {its : Array Value} {ws : List Str} {Q : Value → Shared → Prop} (calm : A.handled = none) (few : ws.length + 1 < scanBound) (r : StrsAre its.toList ws) (hl : s.heap.IsList l its)
    (q : ∀ g tk, SetZ P w g s.heap.objs.size (distinct ws) → (∀ b o, s.heap.get? b = some o → g.get? b = some o) → Q (.ref s.heap.objs.size) { s with heap := g, toks := tk }) : wpAny (model P w) A (call (.type "set") [.ref l]) Q E s := by
  obtain ⟨⟨oc, dd, od, sl⟩, e, ec, n, ed⟩ := hl
  change oc = .type "list" at ec
  change od = .seq its n at ed
  subst ec ed
  obtain ⟨c0, tl, mro⟩ := F.called_set.mro
  have made := F.called_set.made
  have self := F.called_set.sub
  have nty := F.called_set.notType
  have may := F.called_set.canCreate
  have tc := F.typeCall_set_1 (.ref l)
  refine wpAny_call (codeAny_of_tree ?_)
  show wpAny _ _ (callAny (.type "set") _) _ _ _
  refine wpAny_pure ⟨Code.quiet_builtin _ (by decide +kernel), codeAny_builtin F.entry_type_call ?_⟩
  rw [Around.under_plain (weight_type_call_type "set" [.ref l] []) rfl]
  repeat (any_goals (first | assumption | wp_step))
  refine codeAny_mono (code_set_led1 (.ref l) (E := E) (Q₁ := fun v s1 => v = .ref s.heap.objs.size ∧ s1 = { s with heap := s.heap.push (bareSet w) }) ⟨rfl, rfl⟩) fun x s1 hx => ?_
  match x, hx with
  | .error _, hx => exact hx
  | .ok (.ret v), hx =>
    obtain ⟨rfl, rfl⟩ := hx
    have ty : Shared.TypeIs { s with heap := s.heap.push (bareSet w) } (.ref s.heap.objs.size) "set" := ⟨_, Heap.get?_push_size _ rfl, rfl⟩
    have il := F.called_set.init.lookup
    have ib := F.called_set.init.bind (.ref s.heap.objs.size)
    repeat (any_goals (first | assumption | wp_step))
    refine codeAny_mono (codeAny_call_builtin (R := wants (fun v s2 => v = .none ∧ ∃ g tk, s2 = { s with heap := g, toks := tk } ∧ SetZ P w g s.heap.objs.size (distinct ws) ∧ (∀ b o, s.heap.get? b = some o → g.get? b = some o)) E)
      F.called_set.init.plain F.entry_set_init (check_set_init_1 ty ?_)) fun y s2 hy => ?_
    · have s1 := F.sub_list_set
      have s2 := F.sub_list_frozenset
      have nd : (Value.type "list" == Value.type "dict") = false := by decide
      have e1 : (s.heap.push (bareSet w)).get? l = some { cls := .type "list", dict := dd, data := .seq its n, slots := sl } := Heap.get?_push_of_some _ e
      have l1 : (s.heap.push (bareSet w)).IsList l its := ⟨_, e1, rfl, n, rfl⟩
      have z1 : (s.heap.push (bareSet w)).objs.size = s.heap.objs.size + 1 := Heap.size_push ..
      unfold Builtin.«set.__init__» noKeywords Builtin.Frozenset.updateFrom
      generalize hI : pyIter = IT
      wp_walk
      subst hI
      refine wpAny_pyIter_list l1 ?_
      refine wpAny_bind (wpAny_runValue ?_)
      rw [z1]
      refine init_strs (s := s) (n := n) (dd := dd) (sl := sl) (b := s.heap) ?_ few r e fun g tk Z kp => ?_
      · simp [calm]
      · refine wpAny_pure ?_
        show wpAny _ _ (ret Value.none) _ _ _
        exact wpAny_pure ⟨rfl, g, tk, rfl, Z, kp⟩
    · match y, hy with
      | .error _, hy => exact hy
      | .ok (.ret v), hy =>
        obtain ⟨rfl, g, tk, rfl, Z, kp⟩ := hy
        repeat (any_goals (first | assumption | wp_step))
        exact q g tk Z kp
      | .ok .next, hy => exact hy.elim
      | .ok (.brk), hy => exact hy.elim
      | .ok (.cont), hy => exact hy.elim
  | .ok .next, hx => exact hx.elim
  | .ok (.brk), hx => exact hx.elim
  | .ok (.cont), hx => exact hx.elim
end
end Kx
set_option maxHeartbeats 1000000
/-! the rules. -/
namespace Kx
open PySem PySem.Spec PyProof.Rows L2
/-- the set of the texts zs at a -/
def ZO (P : Program) (w : World) (a : Addr) (zs : List Str) : HO := .ext fun h => SetZ P w h a zs
theorem perm_all : ∀ {zs ks : List Str}, zs.Nodup → (∀ z ∈ zs, z ∈ ks) → ks.length ≤ zs.length → ks.Perm zs
  | [], ks, _, _, l => by
    have : ks = [] := List.eq_nil_of_length_eq_zero (by simpa using l)
    rw [this]
  | z :: r, ks, nd, sub, l => by
    obtain ⟨n1, n2⟩ := List.nodup_cons.mp nd
    have zk := sub z (List.mem_cons_self ..)
    have le := List.length_erase_of_mem zk
    have lp := List.length_pos_of_mem zk
    refine (List.perm_cons_erase zk).trans (List.Perm.cons z (perm_all n2 (fun y hy => ?_) ?_))
    · exact (List.mem_erase_of_ne fun e => n1 (by rw [← e]; exact hy)).mpr (sub y (List.mem_cons_of_mem _ hy))
    · rw [List.length_cons] at l; omega
theorem texts_of {P : Program} {w : World} : ∀ (l : List Value), (∀ v ∈ l, ∃ z u, v = Value.str z u) → ∃ ks, StrsAre l ks ∧ ∀ z, z ∈ ks ↔ ∃ v ∈ l, (strKind P w).is z v = true
  | [], _ => ⟨[], .nil, fun z => by simp⟩
  | v :: l, h => by
    obtain ⟨z, u, rfl⟩ := h v (List.mem_cons_self ..)
    obtain ⟨ks, r, m⟩ := texts_of l fun x hx => h x (List.mem_cons_of_mem _ hx)
    refine ⟨z :: ks, .cons z u r, fun y => ?_⟩
    have iy : (strKind P w).is y (.str z u) = true ↔ y = z := ⟨fun e => (strKind P w).inj (.str z u) y z e (Froz.is_str z u), fun e => by rw [e]; exact Froz.is_str z u⟩
    constructor
    · intro hy
      rcases List.mem_cons.mp hy with e | e
      · exact ⟨_, List.mem_cons_self .., iy.mpr e⟩
      · obtain ⟨x, hx, ix⟩ := (m y).mp e
        exact ⟨x, List.mem_cons_of_mem _ hx, ix⟩
    · rintro ⟨x, hx, ix⟩
      rcases List.mem_cons.mp hx with e | e
      · rw [e] at ix
        exact List.mem_cons.mpr (.inl (iy.mp ix))
      · exact List.mem_cons_of_mem _ ((m y).mpr ⟨x, e, ix⟩)
section
variable {X : Cx}
theorem strs_vals : ∀ {ys : List Str} {us : List Value}, Vals (ys.map V.str) us → StrsAre us ys
  | [], _, .nil => .nil
  | y :: ys, _, .cons r t => by
    obtain ⟨k, rfl⟩ := r
    exact .cons y k (strs_vals t)
def rSetZ (P : Program) (w : World) (K : PySem.W.Frag) : List V → Hp → VK → Prop := fun xs H Q => ∃ (l : Addr) (ws : List Str), xs = [.ref l] ∧ SqL K H l (ws.map V.str) ∧ ws.length ≤ 1000 ∧
  ∀ p zs, H p = none → zs.Nodup → (∀ z, z ∈ zs ↔ z ∈ ws) → zs.length ≤ ws.length → Q (.ref p) (upd H p (ZO P w p zs))
theorem cr_setZ (hc : X.calm = true) : CallR X (.type "set") (rSetZ X.prog X.w X.K) := by
  intro pins s σ H xs us Q I r h
  obtain ⟨l, ws, rfl, hS, few, q⟩ := h
  obtain ⟨its, rv, pl, _⟩ := I.list hS
  rw [Vals.ref1 r]
  refine call_setZ (ws := ws) (I.ok.hd hc) (by unfold scanBound; omega) (by simpa using strs_vals rv) pl.isList fun g tk Z kp => ?_
  have Z0 := Z
  obtain ⟨D, e, T, L, nd⟩ := Z
  have J : Inv X pins σ (upd H s.heap.objs.size (ZO X.prog X.w s.heap.objs.size (distinct ws))) { s with heap := g, toks := tk } :=
    I.laid (t' := tk) kp (Nat.le_refl _) ⟨Z0, ⟨_, e⟩, fun h1 h2 p k => SetZ.at p k⟩
  refine ⟨.ref s.heap.objs.size, _, J, rfl, q _ _ (I.hok.fresh (Nat.le_refl _)) nd (fun z => ?_) ?_⟩
  · unfold distinct
    rw [distinct_mem]
    simp
  · have := distinct_len ws []
    unfold distinct
    simpa using this
theorem setZ_get {pins : List (Addr × Obj)} {σ : L2.St} {H : Hp} {s : Shared} {a : Addr} {zs : List Str} (I : Inv X pins σ H s) (e : H a = some (ZO X.prog X.w a zs)) : SetZ X.prog X.w s.heap a zs := (I.hok a _ e).1
def rSortZ (P : Program) (w : World) : List V → Hp → VK → Prop := fun vs H Q => ∃ (a : Addr) (zs : List Str), vs = [.ref a] ∧ H a = some (ZO P w a zs) ∧ zs.length < 64 ∧
  ∀ (ys : List Str) (p : Addr), ys.Perm zs → sortedS ys = true → H p = none → Q (.ref p) (upd H p (.lst (ys.map V.str)))
theorem cr_sortZ (hc : X.calm = true) : CallR X (.builtin "sorted") (rSortZ X.prog X.w) := by
  intro pins s σ H vs us Q I r h
  obtain ⟨a, zs, rfl, ha, h64, q⟩ := h
  obtain ⟨⟨es, ep, t⟩, e, T, L, nd⟩ := setZ_get I ha
  have sz : es.size = zs.length := T.sz
  rw [Vals.ref1 r]
  refine Calls.call_function_entry PyProof.Rows.kind_sorted PyProof.Rows.plain_sorted PyProof.Rows.entry_sorted (PyProof.Rows.args_sorted1 _) ?_
  unfold Builtin.«sorted»
  refine wpAny_bind (m := checkCount "sorted" 1 1 _) (wpAny_pure ?_)
  refine wpAny_bind (collect_set (A := X.A.in1) (I.ok.hd hc) ⟨_, e, rfl, rfl⟩ T.fit (by show es.size < scanBound; unfold scanBound; omega) L.ris L.led fun s1 out kp _ g1 o1 pm => ?_)
  have good : ∀ v ∈ out, ∃ z u, v = Value.str z u := fun v hv => by
    obtain ⟨x, hx, rfl⟩ := List.mem_map.mp (pm.mem_iff.mp hv)
    obtain ⟨⟨k, ek, _⟩, _⟩ := T.el x hx
    obtain ⟨u, ev⟩ := Value.isStrOf_shape (x := k) (v := x.2) ek
    exact ⟨k, u, ev⟩
  obtain ⟨ks, rk, mk⟩ := texts_of (P := X.prog) (w := X.w) out good
  have lo : out.length = zs.length := by rw [pm.length_eq, List.length_map, Array.length_toList]; exact sz
  have lk : ks.length = out.length := (StrsAre.length rk).symm
  have pk : ks.Perm zs := perm_all nd (fun z hz => by
    obtain ⟨x, hx, ix⟩ := (T.mem z).mp hz
    exact (mk z).mpr ⟨x.2, pm.mem_iff.mpr (List.mem_map.mpr ⟨x, hx, rfl⟩), ix⟩) (by omega)
  have e1 : s1 = { s with heap := s1.heap, gens := s1.gens, drawn := s1.drawn, toks := s1.toks } := by
    cases s1
    cases s
    cases o1
    rfl
  refine wpAny_bind (wpAny_newList ?_ (by rw [lo, sizeLine_eq]; omega))
  have at1 : (s1.heap.push (seqObj "list" out.toArray 0)).get? s1.heap.objs.size = some (seqObj "list" out.toArray 0) := Heap.get?_push_size _ rfl
  refine wpAny_bind (wpAny_holding (wpAny_call_entry slot_list_sort ⟨_, at1, rfl⟩ entry_list_sort
    (list_sort_treeK strKind_oneLt (s := { s1 with heap := s1.heap.push (seqObj "list" out.toArray 0) }) at1 rk.keysOf (fun x y rest eq => keyKind_strs (by rw [← eq]; exact rk)) (by rw [lo]; exact h64) fun st hp hs => ⟨_, rfl, ?_⟩) (args_list_sort _)))
  obtain ⟨ys, y1, y2, y3⟩ := sorted_out_str rk hp hs
  obtain ⟨n2, at2⟩ := sortedHeap_at (vs := out) (out := (arrOf st).map (·.2)) at1
  have ly : (ys.map V.str).length ≤ sizeLine := by
    rw [List.length_map, y2.length_eq, lk, lo]
    exact Nat.le_trans (Nat.le_of_lt h64) (by decide)
  have le : s.heap.objs.size ≤ s1.heap.objs.size := by assumption
  have hn : H s1.heap.objs.size = none := I.hok.fresh le
  have kp2 : ∀ b o, s.heap.get? b = some o → (sortedHeap (s1.heap.push (seqObj "list" out.toArray 0)) s1.heap.objs.size out ((arrOf st).map (·.2))).get? b = some o := fun b o eb => by
    have z := kp b o eb
    have lt := Heap.lt_size z
    rw [sortedHeap_old (Nat.ne_of_lt lt) (by rw [size_push']; exact Nat.lt_succ_of_lt lt)]
    exact Heap.get?_push_of_some _ z
  have J : Inv X pins σ (upd H s1.heap.objs.size (.lst (ys.map V.str))) { s1 with heap := sortedHeap (s1.heap.push (seqObj "list" out.toArray 0)) s1.heap.objs.size out ((arrOf st).map (·.2)) } := by
    have J0 : Inv X pins σ (upd H s1.heap.objs.size (.lst (ys.map V.str))) { s with heap := sortedHeap (s1.heap.push (seqObj "list" out.toArray 0)) s1.heap.objs.size out ((arrOf st).map (·.2)), gens := s1.gens, drawn := s1.drawn, toks := s1.toks } :=
      I.call (ch := []) (Un.laid kp2 le hn) (I.hok.laid kp2 le ⟨ly, ((arrOf st).map (·.2)).toList, n2, vals_of_strs y1, by rw [Array.toArray_toList]; exact at2⟩) (by rw [g1]; exact I.bare) (fun _ z => nomatch z)
    rw [e1]
    exact J0
  exact wpAny_pure ⟨_, rfl, .ref s1.heap.objs.size, _, J, rfl, q ys _ (y2.trans pk) y3 hn⟩
/-- a part of a tuple, told as an object that stands as it is -/
def rSlF (K : PySem.W.Frag) : V → Option Int → Option Int → Hp → VK → Prop := fun x lo hi H Q => ∃ a xs, x = .ref a ∧ SqT K H a xs ∧
  ¬ (HT.sIx xs.length 0 lo = 0 ∧ HT.sIx xs.length xs.length hi = xs.length) ∧ ∀ p (o : Obj), H p = none → o.dict = none → o.slots = #[] → Q (.ref p) (upd H p (.frz o (.tup (cutV xs lo hi))))
theorem sl_tupF : SlR X (rSlF X.K) := by
  intro pins s σ H x v vl vu lo hi sl Q I rx hs pl pu h
  obtain ⟨a, xs, rfl, e, no, q⟩ := h
  cases rx
  obtain ⟨its, r, ht, hz⟩ := I.tuple e
  have ln : its.toArray.size = xs.length := by rw [List.size_toArray]; exact r.length.symm
  refine ⟨"tuple", _, PyProof.Rows.slot_tuple_getitem.lookup, ht.typeIs, HT.getItem_tuple_cut ht hs pl pu (by rw [ln]; exact no) ?_ (by rw [ln]; exact hz)⟩
  rw [ln]
  refine ⟨.ref s.heap.objs.size, _, I.laid (t' := s.toks) (o := .frz { cls := .type "tuple", data := .seq ((its.drop (HT.sIx xs.length 0 lo)).take (HT.sIx xs.length xs.length hi - HT.sIx xs.length 0 lo)).toArray } (.tup (cutV xs lo hi))) (fun b ob q => Heap.get?_push_of_some _ q) (Nat.le_refl _) ?_, rfl, q _ _ (I.hok.fresh (Nat.le_refl _)) rfl rfl⟩
  exact ⟨Heap.get?_push_size _ rfl, Nat.le_trans (cutV_length xs lo hi) hz, _, (r.drop (HT.sIx xs.length 0 lo)).take (HT.sIx xs.length xs.length hi - HT.sIx xs.length 0 lo), IsTup.new _ _⟩
/-- tuple(xs), inside a comprehension -/
def rTupOf (K : PySem.W.Frag) : List V → Hp → VK → Prop := fun xs H Q => ∃ p ys, xs = [V.ref p] ∧ ((SqL K H p ys ∧ ∀ (l : Addr), H l = none → Q (V.ref l) (upd H l (HO.tup ys))) ∨ SqT K H p ys ∧ Q (V.ref p) H)
theorem tupOfK {K : PySem.W.Frag} (h : X.K = K := by rfl) : CallR X (.type "tuple") (rTupOf K) := by
  subst h
  exact call_tuple_of
end
end Kx
/-! The mathematics: data, terms, names, nodes, what patterns take, calls. -/
namespace Kx
open PySem PySem.Spec PyProof.Rows L2
inductive PV where
  | str (z : Str)
  | int (i : Int)
  | tup (xs : List PV)
mutual
/-- how deep it is -/
def dep : PV → Nat
  | .str _ => 1
  | .int _ => 1
  | .tup ts => 1 + depL ts
def depL : List PV → Nat
  | [] => 0
  | t :: r => max (dep t) (depL r)
end
theorem dep_pos : ∀ t : PV, 1 ≤ dep t
  | .str _ => by simp [dep]
  | .int _ => by simp [dep]
  | .tup ts => by simp [dep]
theorem depL_mem : ∀ {l : List PV} {t : PV}, t ∈ l → dep t ≤ depL l
  | a :: r, t, h => by
    rcases List.mem_cons.mp h with rfl | h
    · simp only [depL]; omega
    · have := depL_mem h
      simp only [depL]; omega
theorem depL_le {l : List PV} {c : Nat} (h : ∀ t ∈ l, dep t ≤ c) : depL l ≤ c := by
  induction l with
  | nil => simp [depL]
  | cons a r ih =>
    have h1 := h a (List.mem_cons_self ..)
    have h2 := ih fun t ht => h t (List.mem_cons_of_mem _ ht)
    simp only [depL]; omega
mutual
/-- how many things it has -/
def cnt : PV → Nat
  | .str _ => 1
  | .int _ => 1
  | .tup ts => 1 + cntL ts
def cntL : List PV → Nat
  | [] => 0
  | t :: r => cnt t + cntL r
end
theorem cnt_pos : ∀ t : PV, 1 ≤ cnt t
  | .str _ => by simp [cnt]
  | .int _ => by simp [cnt]
  | .tup ts => by simp [cnt]
theorem cntL_mem : ∀ {l : List PV} {t : PV}, t ∈ l → cnt t ≤ cntL l
  | a :: r, t, h => by
    rcases List.mem_cons.mp h with rfl | h
    · simp [cntL]
    · have := cntL_mem h
      simp only [cntL]; omega
theorem cntL_len : ∀ l : List PV, l.length ≤ cntL l
  | [] => by simp [cntL]
  | a :: r => by
    have := cntL_len r
    have := cnt_pos a
    simp only [cntL, List.length_cons]; omega
theorem cntL_append : ∀ a b : List PV, cntL (a ++ b) = cntL a + cntL b
  | [], b => by simp [cntL]
  | x :: r, b => by
    have := cntL_append r b
    simp only [List.cons_append, cntL, this]; omega
theorem cntL_reverse : ∀ a : List PV, cntL a.reverse = cntL a
  | [] => rfl
  | x :: r => by
    have := cntL_reverse r
    simp only [List.reverse_cons, cntL_append, cntL, this]; omega
/-! ### names -/
def add1 (f : List Str) (x : Str) : List Str := if x ∈ f then f else f ++ [x]
def dd (f ys : List Str) : List Str := ys.foldl add1 f
def addN (f ys : List Str) : List Str := f ++ ys.filter fun y => decide (y ∉ f)
theorem dd_snoc (f ys : List Str) (x : Str) : dd f (ys ++ [x]) = add1 (dd f ys) x := by simp [dd]
theorem dd_append (f a b : List Str) : dd f (a ++ b) = dd (dd f a) b := by simp [dd]
theorem snoc_induct {α : Type} {P : List α → Prop} (h0 : P []) (h1 : ∀ l x, P l → P (l ++ [x])) (l : List α) : P l := by
  have : ∀ r : List α, P r.reverse := by
    intro r
    induction r with
    | nil => exact h0
    | cons x r ih => rw [List.reverse_cons]; exact h1 _ _ ih
  have := this l.reverse
  rwa [List.reverse_reverse] at this
theorem dd_eq (f ys : List Str) : dd f ys = addN f (dd [] ys) := by
  refine snoc_induct (P := fun ys => dd f ys = addN f (dd [] ys)) ?_ ?_ ys
  · simp [dd, addN]
  · intro l x ih
    rw [dd_snoc, dd_snoc, ih]
    by_cases hx : x ∈ dd [] l
    · have h1 : x ∈ addN f (dd [] l) := by
        by_cases hf : x ∈ f
        · exact List.mem_append_left _ hf
        · exact List.mem_append_right _ (List.mem_filter.mpr ⟨hx, by simp [hf]⟩)
      simp only [add1, if_pos hx, if_pos h1]
    · by_cases hf : x ∈ f
      · have h1 : x ∈ addN f (dd [] l) := List.mem_append_left _ hf
        rw [add1, if_pos h1, add1, if_neg hx]
        simp [addN, List.filter_append, hf]
      · have h1 : x ∉ addN f (dd [] l) := by
          intro h
          rcases List.mem_append.mp h with h | h
          · exact hf h
          · exact hx (List.mem_filter.mp h).1
        rw [add1, if_neg h1, add1, if_neg hx]
        simp [addN, List.filter_append, hf, List.append_assoc]
mutual
/-- the names as they stand, from the left -/
def lv : PV → List Str
  | .str z => [z]
  | .int _ => []
  | .tup [] => []
  | .tup (_ :: r) => lvL r
def lvL : List PV → List Str
  | [] => []
  | t :: r => lv t ++ lvL r
end
theorem lvL_append : ∀ a b : List PV, lvL (a ++ b) = lvL a ++ lvL b
  | [], b => by simp [lvL]
  | x :: r, b => by simp only [List.cons_append, lvL, lvL_append r b, List.append_assoc]
/-- each name once -/
def nms (t : PV) : List Str := dd [] (lv t)
def nmsL (f : List Str) (l : List PV) : List Str := l.foldl (fun f t => addN f (nms t)) f
theorem nmsL_eq : ∀ (l : List PV) (f : List Str), nmsL f l = dd f (lvL l)
  | [], f => rfl
  | t :: r, f => by
    show nmsL (addN f (nms t)) r = _
    rw [nmsL_eq r, nms, ← dd_eq]
    simp only [lvL, dd_append]
theorem nms_tup (x : PV) (r : List PV) : nms (.tup (x :: r)) = nmsL [] r := by
  rw [nmsL_eq]; rfl
theorem add1_len (f : List Str) (x : Str) : (add1 f x).length ≤ f.length + 1 := by
  unfold add1; split <;> simp
theorem dd_len : ∀ (ys f : List Str), (dd f ys).length ≤ f.length + ys.length
  | [], f => Nat.le_refl _
  | y :: r, f => by
    have h1 := dd_len r (add1 f y)
    have h2 := add1_len f y
    show (dd (add1 f y) r).length ≤ _
    rw [List.length_cons]; omega
mutual
theorem lv_len : ∀ t : PV, (lv t).length ≤ cnt t
  | .str _ => by simp [lv, cnt]
  | .int _ => by simp [lv]
  | .tup [] => by simp [lv]
  | .tup (x :: r) => by
    have := lvL_len r
    simp only [lv, cnt, cntL]; omega
theorem lvL_len : ∀ l : List PV, (lvL l).length ≤ cntL l
  | [] => by simp [lvL]
  | t :: r => by
    have := lv_len t
    have := lvL_len r
    simp only [lvL, cntL, List.length_append]; omega
end
theorem nms_len (t : PV) : (nms t).length ≤ cnt t := by
  have := dd_len (lv t) []
  have := lv_len t
  simp only [nms]; simp at *; omega
theorem addN_len (f ys : List Str) : (addN f ys).length ≤ f.length + ys.length := by
  have := List.length_filter_le (fun y => decide (y ∉ f)) ys
  simp only [addN, List.length_append]; omega
mutual
/-- the shape of a term: a text, or a tuple of a text and terms -/
def Tm : PV → Prop
  | .str _ => True
  | .int _ => False
  | .tup [] => False
  | .tup (.int _ :: _) => False
  | .tup (.tup _ :: _) => False
  | .tup (.str _ :: r) => TmL r
def TmL : List PV → Prop
  | [] => True
  | t :: r => Tm t ∧ TmL r
end
theorem TmL_mem : ∀ {l : List PV}, (∀ t ∈ l, Tm t) → TmL l
  | [], _ => trivial
  | t :: r, h => ⟨h t (List.mem_cons_self ..), TmL_mem fun x hx => h x (List.mem_cons_of_mem _ hx)⟩
theorem mem_TmL : ∀ {l : List PV}, TmL l → ∀ t ∈ l, Tm t
  | a :: r, h, t, ht => by
    rcases List.mem_cons.mp ht with rfl | ht
    · exact h.1
    · exact mem_TmL h.2 t ht
theorem cnt_cons (w : Str) (ts : List PV) : cnt (.tup (.str w :: ts)) = 2 + cntL ts := by simp only [cnt, cntL]; omega
theorem dep_cons (w : Str) (ts : List PV) : dep (.tup (.str w :: ts)) = 1 + max 1 (depL ts) := by simp only [dep, depL]
mutual
/-- the words of its nodes -/
def nw : PV → List Str
  | .str _ => []
  | .int _ => []
  | .tup [] => []
  | .tup (.int _ :: _) => []
  | .tup (.tup _ :: _) => []
  | .tup (.str w :: r) => w :: nwL r
def nwL : List PV → List Str
  | [] => []
  | t :: r => nw t ++ nwL r
end
theorem nwL_append : ∀ a b : List PV, nwL (a ++ b) = nwL a ++ nwL b
  | [], b => by simp [nwL]
  | x :: a, b => by simp only [List.cons_append, nwL, nwL_append a b, List.append_assoc]
theorem nwL_mem {z : Str} : ∀ {l : List PV}, z ∈ nwL l ↔ ∃ t ∈ l, z ∈ nw t
  | [] => by simp [nwL]
  | a :: r => by simp only [nwL, List.mem_append, nwL_mem (l := r), List.mem_cons, exists_eq_or_imp]
mutual
theorem nw_len : ∀ t : PV, (nw t).length ≤ cnt t
  | .str _ => by simp [nw]
  | .int _ => by simp [nw]
  | .tup [] => by simp [nw]
  | .tup (.int _ :: _) => by simp [nw]
  | .tup (.tup _ :: _) => by simp [nw]
  | .tup (.str w :: r) => by
    have := nwL_len r
    simp only [nw, cnt, cntL, List.length_cons]; omega
theorem nwL_len : ∀ l : List PV, (nwL l).length ≤ cntL l
  | [] => by simp [nwL]
  | t :: r => by
    have := nw_len t
    have := nwL_len r
    simp only [nwL, cntL, List.length_append]; omega
end
/-- the makers and how many parts each has -/
def KA : List (Str × Nat) := [("K0", 0), ("K1", 1), ("K2", 2)]
mutual
/-- a term over the makers -/
def Ap : PV → Prop
  | .str _ => True
  | .int _ => False
  | .tup [] => False
  | .tup (.int _ :: _) => False
  | .tup (.tup _ :: _) => False
  | .tup (.str w :: r) => (w, r.length) ∈ KA ∧ ApL r
def ApL : List PV → Prop
  | [] => True
  | t :: r => Ap t ∧ ApL r
end
theorem ApL_mem : ∀ {l : List PV}, (∀ t ∈ l, Ap t) → ApL l
  | [], _ => trivial
  | t :: r, h => ⟨h t (List.mem_cons_self ..), ApL_mem fun x hx => h x (List.mem_cons_of_mem _ hx)⟩
theorem mem_ApL : ∀ {l : List PV}, ApL l → ∀ t ∈ l, Ap t
  | a :: r, h, t, ht => by
    rcases List.mem_cons.mp ht with rfl | ht
    · exact h.1
    · exact mem_ApL h.2 t ht
mutual
theorem ap_tm : ∀ {t : PV}, Ap t → Tm t
  | .str _, _ => trivial
  | .int _, h => h.elim
  | .tup [], h => h.elim
  | .tup (.int _ :: _), h => h.elim
  | .tup (.tup _ :: _), h => h.elim
  | .tup (.str w :: r), h => apL_tm h.2
theorem apL_tm : ∀ {l : List PV}, ApL l → TmL l
  | [], _ => trivial
  | t :: r, h => ⟨ap_tm h.1, apL_tm h.2⟩
end
theorem KA_len {w : Str} {n m : Nat} (h : (w, n) ∈ KA) (g : (w, m) ∈ KA) : n = m := by
  have key : ∀ p ∈ KA, ∀ q ∈ KA, p.1 = q.1 → p.2 = q.2 := by decide +kernel
  exact key _ h _ g rfl
theorem KA_two {w : Str} {n : Nat} (h : (w, n) ∈ KA) : n ≤ 2 := by
  have key : ∀ p ∈ KA, p.2 ≤ 2 := by decide +kernel
  exact key _ h
/-! ### functions -/
structure Cl where
  ps : List PV
  body : PV
structure Fn where
  w : Str
  np : Nat
  at_ : Int
  cls : List Cl
def clPV (c : Cl) : PV := .tup [.tup c.ps, c.body]
def fnPV (f : Fn) : PV := .tup [.str f.w, .tup (List.replicate f.np (.tup [.str "Fa", .str "a"])), .str "Fa", .str "a", .int f.at_, .tup (f.cls.map clPV)]
def progPV (fs : List Fn) : PV := .tup [.str "program", .tup (fs.map fnPV)]
def PatG (t : PV) : Prop := Ap t ∧ dep t ≤ 3 ∧ cnt t ≤ 5
structure ClG (np : Nat) (c : Cl) : Prop where
  len : c.ps.length = np
  pat : ∀ p ∈ c.ps, PatG p
  nms : (lvL c.ps).Nodup
  body : Tm c.body ∧ dep c.body ≤ 5 ∧ cnt c.body ≤ 60
structure FnG (f : Fn) : Prop where
  np : 1 ≤ f.np ∧ f.np ≤ 2
  few : f.cls.length ≤ 2
  cl : ∀ c ∈ f.cls, ClG f.np c
structure ProgG (fs : List Fn) : Prop where
  nd : (fs.map Fn.w).Nodup
  len : 1 ≤ fs.length ∧ fs.length ≤ 12
  fn : ∀ f ∈ fs, FnG f
/-- z calls y -/
def Call (fs : List Fn) (z y : Str) : Prop := y ∈ fs.map Fn.w ∧ ∃ f ∈ fs, f.w = z ∧ ∃ c ∈ f.cls, y ∈ nw c.body
inductive Reach (fs : List Fn) (z : Str) : Str → Prop
  | one {y : Str} (h : Call fs z y) : Reach fs z y
  | more {y x : Str} (h : Reach fs z y) (g : Call fs y x) : Reach fs z x
theorem reach_in {fs : List Fn} {z : Str} {S : List Str} (h0 : ∀ y, Call fs z y → y ∈ S) (h1 : ∀ x ∈ S, ∀ y, Call fs x y → y ∈ S) : ∀ {y : Str}, Reach fs z y → y ∈ S
  | _, .one h => h0 _ h
  | _, .more h g => h1 _ (reach_in h0 h1 h) _ g
theorem reach_word {fs : List Fn} {z y : Str} (h : Reach fs z y) : y ∈ fs.map Fn.w := by
  cases h with
  | one h => exact h.1
  | more _ g => exact g.1
theorem nodup_len : ∀ {l W : List Str}, l.Nodup → (∀ z ∈ l, z ∈ W) → l.length ≤ W.length
  | [], _, _, _ => Nat.zero_le _
  | z :: r, W, h, s => by
    obtain ⟨n1, n2⟩ := List.nodup_cons.mp h
    have zW := s z (List.mem_cons_self ..)
    have ih := nodup_len (l := r) (W := W.erase z) n2 fun y hy => (List.mem_erase_of_ne (fun e => n1 (by rw [← e]; exact hy))).mpr (s y (List.mem_cons_of_mem _ hy))
    rw [List.length_erase_of_mem zW] at ih
    have := List.length_pos_of_mem zW
    rw [List.length_cons]; omega
/-! ### nodes -/
mutual
def nd : PV → List PV
  | .str _ => []
  | .int _ => []
  | .tup [] => []
  | .tup (.int _ :: _) => []
  | .tup (.tup _ :: _) => []
  | .tup (.str w :: r) => .tup (.str w :: r) :: ndL r
def ndL : List PV → List PV
  | [] => []
  | t :: r => nd t ++ ndL r
end
theorem ndL_append : ∀ a b : List PV, ndL (a ++ b) = ndL a ++ ndL b
  | [], b => by simp [ndL]
  | x :: a, b => by simp only [List.cons_append, ndL, ndL_append a b, List.append_assoc]
/-- its word -/
def wd : PV → Str
  | .tup (.str w :: _) => w
  | _ => ""
mutual
theorem nw_eq : ∀ t : PV, nw t = (nd t).map wd
  | .str _ => by simp [nw, nd]
  | .int _ => by simp [nw, nd]
  | .tup [] => by simp [nw, nd]
  | .tup (.int _ :: _) => by simp [nw, nd]
  | .tup (.tup _ :: _) => by simp [nw, nd]
  | .tup (.str w :: r) => by simp only [nw, nd, List.map_cons, wd, nwL_eq r]
theorem nwL_eq : ∀ l : List PV, nwL l = (ndL l).map wd
  | [] => by simp [nwL, ndL]
  | t :: r => by simp only [nwL, ndL, List.map_append, nw_eq t, nwL_eq r]
end
mutual
theorem nd_inv : ∀ {t n : PV}, n ∈ nd t → ∃ r, n = .tup (.str (wd n) :: r)
  | .str _, n, h => by simp [nd] at h
  | .int _, n, h => by simp [nd] at h
  | .tup [], n, h => by simp [nd] at h
  | .tup (.int _ :: _), n, h => by simp [nd] at h
  | .tup (.tup _ :: _), n, h => by simp [nd] at h
  | .tup (.str w :: r), n, h => by
    simp only [nd, List.mem_cons] at h
    rcases h with rfl | h
    · exact ⟨r, rfl⟩
    · exact ndL_inv h
theorem ndL_inv : ∀ {l : List PV} {n : PV}, n ∈ ndL l → ∃ r, n = .tup (.str (wd n) :: r)
  | [], n, h => by simp [ndL] at h
  | t :: r, n, h => by
    simp only [ndL, List.mem_append] at h
    rcases h with h | h
    · exact nd_inv h
    · exact ndL_inv h
end
/-! ### bodies over words with numbers of parts -/
mutual
def BdOk (ar : List (Str × Nat)) (ns : List Str) : PV → Prop
  | .str z => z ∈ ns
  | .int _ => False
  | .tup [] => False
  | .tup (.int _ :: _) => False
  | .tup (.tup _ :: _) => False
  | .tup (.str w :: r) => (w, r.length) ∈ ar ∧ BdOkL ar ns r
def BdOkL (ar : List (Str × Nat)) (ns : List Str) : List PV → Prop
  | [] => True
  | t :: r => BdOk ar ns t ∧ BdOkL ar ns r
end
theorem BdOkL_mem {ar : List (Str × Nat)} {ns : List Str} : ∀ {l : List PV}, (∀ t ∈ l, BdOk ar ns t) → BdOkL ar ns l
  | [], _ => trivial
  | t :: r, h => ⟨h t (List.mem_cons_self ..), BdOkL_mem fun x hx => h x (List.mem_cons_of_mem _ hx)⟩
theorem mem_BdOkL {ar : List (Str × Nat)} {ns : List Str} : ∀ {l : List PV}, BdOkL ar ns l → ∀ t ∈ l, BdOk ar ns t
  | a :: r, h, t, ht => by
    rcases List.mem_cons.mp ht with rfl | ht
    · exact h.1
    · exact mem_BdOkL h.2 t ht
mutual
theorem bdOk_tm {ar : List (Str × Nat)} {ns : List Str} : ∀ {t : PV}, BdOk ar ns t → Tm t
  | .str _, _ => trivial
  | .int _, h => h.elim
  | .tup [], h => h.elim
  | .tup (.int _ :: _), h => h.elim
  | .tup (.tup _ :: _), h => h.elim
  | .tup (.str w :: r), h => bdOkL_tm h.2
theorem bdOkL_tm {ar : List (Str × Nat)} {ns : List Str} : ∀ {l : List PV}, BdOkL ar ns l → TmL l
  | [], _ => trivial
  | t :: r, h => ⟨bdOk_tm h.1, bdOkL_tm h.2⟩
end
mutual
theorem bdOk_nd {ar : List (Str × Nat)} {ns : List Str} : ∀ {t n : PV}, BdOk ar ns t → n ∈ nd t → BdOk ar ns n
  | .str _, n, _, h => by simp [nd] at h
  | .int _, n, _, h => by simp [nd] at h
  | .tup [], n, _, h => by simp [nd] at h
  | .tup (.int _ :: _), n, _, h => by simp [nd] at h
  | .tup (.tup _ :: _), n, _, h => by simp [nd] at h
  | .tup (.str w :: r), n, b, h => by
    simp only [nd, List.mem_cons] at h
    rcases h with rfl | h
    · exact b
    · exact bdOkL_nd b.2 h
theorem bdOkL_nd {ar : List (Str × Nat)} {ns : List Str} : ∀ {l : List PV} {n : PV}, BdOkL ar ns l → n ∈ ndL l → BdOk ar ns n
  | [], n, _, h => by simp [ndL] at h
  | t :: r, n, b, h => by
    simp only [ndL, List.mem_append] at h
    rcases h with h | h
    · exact bdOk_nd b.1 h
    · exact bdOkL_nd b.2 h
end
mutual
/-- how many nodes -/
def tn : PV → Nat
  | .str _ => 0
  | .int _ => 0
  | .tup [] => 0
  | .tup (_ :: r) => 1 + tnL r
def tnL : List PV → Nat
  | [] => 0
  | t :: r => tn t + tnL r
end
mutual
theorem tn_cnt : ∀ t : PV, 2 * tn t ≤ cnt t
  | .str _ => by simp [tn]
  | .int _ => by simp [tn]
  | .tup [] => by simp [tn]
  | .tup (x :: r) => by
    have := tnL_cnt r
    have := cnt_pos x
    simp only [tn, cnt, cntL]; omega
theorem tnL_cnt : ∀ l : List PV, 2 * tnL l ≤ cntL l
  | [] => by simp [tnL]
  | t :: r => by
    have := tn_cnt t
    have := tnL_cnt r
    simp only [tnL, cntL]; omega
end
/-! ### well made programs of the law, and when all calls fall -/
def fw (i : Nat) : Str := ("f" : Str) ++ (toString ((i : Nat) : Int))
theorem fw_ok : ∀ i, i < 12 → PyData.strOk (fw i) = true := by decide +kernel
theorem fw_inj : ∀ i, i < 12 → ∀ j, j < 12 → fw i = fw j → i = j := by decide +kernel
/-- the names that patterns have -/
def NM : List Str := ["x", "x0", "x1", "y0", "y1"]
def AR (fs : List Fn) : List (Str × Nat) := KA ++ fs.map fun f => (f.w, f.np)
structure PgG (fs : List Fn) : Prop where
  g : ProgG fs
  wd : ∀ f ∈ fs, ∃ i, i < 12 ∧ f.w = fw i
  at_ : ∀ f ∈ fs, 0 ≤ f.at_ ∧ f.at_ < (f.np : Int)
  nm : ∀ f ∈ fs, ∀ c ∈ f.cls, ∀ z ∈ lvL c.ps, z ∈ NM
  bd : ∀ f ∈ fs, ∀ c ∈ f.cls, BdOk (AR fs) (lvL c.ps) c.body
/-- in the group of z -/
def InG (fs : List Fn) (z y : Str) : Prop := y = z ∨ (Reach fs z y ∧ Reach fs y z)
/-- names below a constructor -/
def below : PV → List Str
  | .str _ => []
  | .int _ => []
  | .tup l => nms (.tup l)
/-- this call falls -/
def FallC (fs : List Fn) (f : Fn) (c : Cl) (n : PV) : Prop := ∀ g ∈ fs, g.w = wd n → InG fs f.w g.w → ∀ r, n = .tup (.str (wd n) :: r) → ∀ x, r[g.at_.toNat]? = some x → ∀ p, c.ps[f.at_.toNat]? = some p → ∃ z, x = .str z ∧ z ∈ below p
def Falls (fs : List Fn) : Prop := ∀ f ∈ fs, ∀ c ∈ f.cls, ∀ n ∈ nd c.body, FallC fs f c n
/-! ### the order of texts -/
theorem rising_pair : ∀ (l : List Str) (p : Str), risingS p l = true → (p :: l).Pairwise fun a b => a.cps.toList ≤ b.cps.toList
  | [], p, _ => List.pairwise_singleton ..
  | x :: r, p, h => by
    have h' : (!ltCps x.cps.toList p.cps.toList && risingS x r) = true := h
    rw [Bool.and_eq_true, ltCps_eq] at h'
    have ih := rising_pair r x h'.2
    have px : p.cps.toList ≤ x.cps.toList := by
      have := h'.1
      simpa using this
    refine List.pairwise_cons.mpr ⟨fun y hy => ?_, ih⟩
    rcases List.mem_cons.mp hy with rfl | hy
    · exact px
    · exact List.le_trans px ((List.pairwise_cons.mp ih).1 y hy)
theorem sorted_pair : ∀ (l : List Str), sortedS l = true → l.Pairwise fun a b => a.cps.toList ≤ b.cps.toList
  | [], _ => .nil
  | x :: r, h => rising_pair r x h
theorem str_ext {a b : Str} (h : a.cps.toList = b.cps.toList) : a = b := by
  cases a; cases b
  congr 1
  exact Array.toList_inj.mp h
theorem sorted_one {ys zs : List Str} (p : ys.Perm zs) (s1 : sortedS ys = true) (s2 : sortedS zs = true) : ys = zs :=
  List.Perm.eq_of_pairwise (fun _ _ _ _ h1 h2 => str_ext (List.le_antisymm h1 h2)) (sorted_pair ys s1) (sorted_pair zs s2) p
/-- two sorted lists of the same texts, each once -/
theorem sorted_same {ys zs : List Str} (n1 : ys.Nodup) (n2 : zs.Nodup) (s1 : sortedS ys = true) (s2 : sortedS zs = true) (h : ∀ z, z ∈ ys ↔ z ∈ zs) : ys = zs :=
  sorted_one (perm_all n2 (fun z hz => (h z).mpr hz) (nodup_len n1 fun z hz => (h z).mp hz)) s1 s2
end Kx
/-! The heap: what stands for a tree; the promises of the defs. -/
namespace Kx
open PySem PySem.Spec PyProof.Rows L2
/-- all its signs are signs -/
abbrev sok (z : Str) : Bool := PyData.strOk z
mutual
/-- the value v stands for the tree -/
inductive Is (H : Hp) : V → PV → Prop
  | str (z : Str) (ok : sok z = true) : Is H (.str z) (.str z)
  | int (i : Int) : Is H (.int i) (.int i)
  | tup {a : Addr} {vs : List V} {ts : List PV} (e : H a = some (.tup vs)) (h : IsL H vs ts) : Is H (.ref a) (.tup ts)
inductive IsL (H : Hp) : List V → List PV → Prop
  | nil : IsL H [] []
  | cons {v : V} {vs : List V} {t : PV} {ts : List PV} (h : Is H v t) (r : IsL H vs ts) : IsL H (v :: vs) (t :: ts)
end
/-- all tuples stand -/
def Tk (H H' : Hp) : Prop := ∀ a vs, H a = some (.tup vs) → H' a = some (.tup vs)
theorem Tk.of {H H' : Hp} (s : Same H H') : Tk H H' := fun a vs e => s _ _ e
theorem Tk.refl (H : Hp) : Tk H H := fun _ _ e => e
theorem Tk.trans {H H1 H2 : Hp} (x : Tk H H1) (y : Tk H1 H2) : Tk H H2 := fun a vs e => y _ _ (x _ _ e)
mutual
theorem Is.tk {H H' : Hp} (x : Tk H H') : ∀ {v : V} {t : PV}, Is H v t → Is H' v t
  | _, _, .str z k => .str z k
  | _, _, .int i => .int i
  | _, _, .tup e h => .tup (x _ _ e) (IsL.tk x h)
theorem IsL.tk {H H' : Hp} (x : Tk H H') : ∀ {v : List V} {t : List PV}, IsL H v t → IsL H' v t
  | _, _, .nil => .nil
  | _, _, .cons h r => .cons (Is.tk x h) (IsL.tk x r)
end
theorem Is.same {H H' : Hp} (x : Same H H') {v : V} {t : PV} (h : Is H v t) : Is H' v t := h.tk (.of x)
theorem IsL.same {H H' : Hp} (x : Same H H') {v : List V} {t : List PV} (h : IsL H v t) : IsL H' v t := h.tk (.of x)
theorem same_upd {H : Hp} {p : Addr} (h : H p = none) (o : HO) : Same H (upd H p o) := fun b u e => by rw [upd_ne (ne_of_none e h)]; exact e
theorem IsL.len {H : Hp} : ∀ {v : List V} {t : List PV}, IsL H v t → v.length = t.length
  | _, _, .nil => rfl
  | _, _, .cons _ r => by simp [IsL.len r]
theorem IsL.get {H : Hp} : ∀ {v : List V} {t : List PV}, IsL H v t → ∀ {i : Nat} {x : V}, v[i]? = some x → ∃ y, t[i]? = some y ∧ Is H x y
  | _, _, .nil, i, x, h => by simp at h
  | _, _, .cons h r, 0, x, e => by cases (Option.some.inj e); exact ⟨_, rfl, h⟩
  | _, _, .cons h r, i + 1, x, e => IsL.get r (by simpa using e)
theorem IsL.append {H : Hp} : ∀ {v : List V} {t : List PV} {v' : List V} {t' : List PV}, IsL H v t → IsL H v' t' → IsL H (v ++ v') (t ++ t')
  | _, _, _, _, .nil, h => h
  | _, _, _, _, .cons a r, h => .cons a (r.append h)
theorem IsL.take {H : Hp} : ∀ (n : Nat) {v : List V} {t : List PV}, IsL H v t → IsL H (v.take n) (t.take n)
  | 0, _, _, _ => .nil
  | n + 1, _, _, .nil => .nil
  | n + 1, _, _, .cons a r => .cons a (r.take n)
theorem IsL.drop {H : Hp} : ∀ (n : Nat) {v : List V} {t : List PV}, IsL H v t → IsL H (v.drop n) (t.drop n)
  | 0, _, _, h => h
  | n + 1, _, _, .nil => .nil
  | n + 1, _, _, .cons a r => r.drop n
theorem IsL.reverse {H : Hp} : ∀ {v : List V} {t : List PV}, IsL H v t → IsL H v.reverse t.reverse
  | _, _, .nil => .nil
  | _, _, .cons a r => by simp only [List.reverse_cons]; exact r.reverse.append (.cons a .nil)
theorem IsL.snoc_inv {H : Hp} {v : List V} {t : List PV} {x : V} (h : IsL H v t) (e : v[v.length - 1]? = some x) (hn : v ≠ []) : ∃ ts y, t = ts ++ [y] ∧ Is H x y ∧ IsL H v.dropLast ts := by
  have hl := h.len
  have hv : 0 < v.length := by cases v with | nil => exact absurd rfl hn | cons _ _ => simp
  obtain ⟨y, e2, hy⟩ := h.get e
  refine ⟨t.take (t.length - 1), y, ?_, hy, ?_⟩
  · have : t.length - 1 < t.length := by omega
    have e3 : t[t.length - 1]'this = y := by
      rw [hl, List.getElem?_eq_getElem this] at e2
      exact Option.some.inj e2
    have h2 := List.take_append_drop (t.length - 1) t
    have h3 : t.drop (t.length - 1) = [y] := by
      rw [List.drop_eq_getElem_cons this, e3, List.drop_eq_nil_of_le (by omega)]
    rw [h3] at h2
    exact h2.symm
  · rw [List.dropLast_eq_take, hl]
    exact h.take _
theorem Is.str_inv {H : Hp} {v : V} {z : Str} (h : Is H v (.str z)) : v = .str z := by cases h; rfl
theorem Is.tup_inv {H : Hp} {v : V} {ts : List PV} (h : Is H v (.tup ts)) : ∃ a vs, v = .ref a ∧ H a = some (.tup vs) ∧ IsL H vs ts := by
  cases h with
  | tup e h => exact ⟨_, _, rfl, e, h⟩
/-! ### isinstance -/
def tyOf : PV → Value → Prop := fun t u => match t with
  | .str _ => u = .type "str"
  | .tup _ => u = .type "tuple"
  | .int _ => u = .type "int"
theorem Is.ty {K : PySem.W.Frag} {H : Hp} {v : V} {t : PV} (h : Is H v t) : ∃ u, TyX K H v u ∧ tyOf t u := by
  cases h with
  | str z _ => exact ⟨_, .base (.str z), rfl⟩
  | int i => exact ⟨_, .base (.int i), rfl⟩
  | tup e h => exact ⟨_, .base (.tup e), rfl⟩
def isStr : PV → Bool
  | .str _ => true
  | _ => false
def isTup : PV → Bool
  | .tup _ => true
  | _ => false
theorem kit_str {K : PySem.W.Frag} {t : PV} {u : Value} (h : tyOf t u) : PySem.W.kitOne K u (.type "str") = some (isStr t) := by
  cases t with
  | str z => cases h; exact kit_ty (show kitB "str" "str" = some true by decide +kernel)
  | tup ts => cases h; exact kit_ty (show kitB "tuple" "str" = some false by decide +kernel)
  | int i => cases h; exact kit_ty (show kitB "int" "str" = some false by decide +kernel)
theorem kit_tup {K : PySem.W.Frag} {t : PV} {u : Value} (h : tyOf t u) : PySem.W.kitOne K u (.type "tuple") = some (isTup t) := by
  cases t with
  | str z => cases h; exact kit_ty (show kitB "str" "tuple" = some false by decide +kernel)
  | tup ts => cases h; exact kit_ty (show kitB "tuple" "tuple" = some true by decide +kernel)
  | int i => cases h; exact kit_ty (show kitB "int" "tuple" = some false by decide +kernel)
/-- what isinstance asks of such a value -/
theorem isi_str {K : PySem.W.Frag} {H : Hp} {v : V} {t : PV} {Q : VK} (h : Is H v t) (q : Q (.bl (isStr t)) H) : rIsi K [v, .ty "str"] H Q := by
  obtain ⟨u, a, b⟩ := h.ty (K := K)
  exact ⟨_, _, u, _, _, rfl, .ty _, a, kit_str b, q⟩
theorem isi_tup {K : PySem.W.Frag} {H : Hp} {v : V} {t : PV} {Q : VK} (h : Is H v t) (q : Q (.bl (isTup t)) H) : rIsi K [v, .ty "tuple"] H Q := by
  obtain ⟨u, a, b⟩ := h.ty (K := K)
  exact ⟨_, _, u, _, _, rfl, .ty _, a, kit_tup b, q⟩
theorem Paired.imp {α β : Type} {F G : α → β → Prop} : ∀ {l : List α} {m : List β}, Paired F l m → (∀ a b, F a b → G a b) → Paired G l m
  | _, _, .nil, _ => .nil
  | _, _, .cons h t, f => .cons (f _ _ h) (Paired.imp t f)
theorem Same.own {l : Addr} {H H1 : Hp} (x : Same H H1) (hl : H l = none) (o : HO) : Same H (upd H1 l o) := fun b u h => by rw [upd_ne (ne_of_none h hl)]; exact x b u h
end Kx
/-! Read as data; != of the same data. -/
namespace Kx
open PySem PySem.Spec PyProof.Rows L2
mutual
def toD : PV → PyData
  | .str z => .str z
  | .int i => .int i
  | .tup l => .tuple (toDL l)
def toDL : List PV → List PyData
  | [] => []
  | t :: r => toD t :: toDL r
end
mutual
theorem eqvD : ∀ a : PV, PyData.eqv (toD a) (toD a) = true
  | .str x => by simp [toD, PyData.eqv]
  | .int x => by simp [toD, PyData.eqv]
  | .tup xs => by simp only [toD, PyData.eqv]; exact eqvDL xs
theorem eqvDL : ∀ a : List PV, PyData.eqvAll (toDL a) (toDL a) = true
  | [] => by simp [toDL, PyData.eqvAll]
  | x :: r => by simp only [toDL, PyData.eqvAll, eqvD x, eqvDL r, Bool.and_self]
end
mutual
theorem deepD : ∀ t : PV, (toD t).depth ≤ dep t
  | .str _ => by simp [toD, PyData.depth]
  | .int _ => by simp [toD, PyData.depth]
  | .tup ts => by
    have := deepDL ts
    simp only [toD, PyData.depth, dep]; omega
theorem deepDL : ∀ l : List PV, PyData.depthAll (toDL l) ≤ depL l
  | [] => by simp [toDL, PyData.depthAll]
  | t :: r => by
    have a := deepD t
    have b := deepDL r
    simp only [toDL, PyData.depthAll, depL]; omega
end
mutual
theorem Is.lay {H : Hp} : ∀ {v : V} {t : PV}, Is H v t → (toD t).canLay0 = true
  | _, _, .str z k => by simp only [toD, PyData.canLay0]; exact k
  | _, _, .int _ => rfl
  | _, _, .tup e h => by simp only [toD, PyData.canLay0]; exact IsL.lay h
theorem IsL.lay {H : Hp} : ∀ {v : List V} {t : List PV}, IsL H v t → PyData.canLayAll0 (toDL t) = true
  | _, _, .nil => by simp [toDL, PyData.canLayAll0]
  | _, _, .cons h r => by simp only [toDL, PyData.canLayAll0, Is.lay h, IsL.lay r, Bool.and_self]
end
mutual
theorem Is.dp {K : PySem.W.Frag} {H : Hp} : ∀ {v : V} {t : PV}, Is H v t → Dp K H v (toD t)
  | _, _, .str z k => by simp only [toD]; exact .str z
  | _, _, .int i => by simp only [toD]; exact .int i
  | _, _, .tup e i => by simp only [toD]; exact .tup (.inl (.inl e)) (IsL.dp i)
theorem IsL.dp {K : PySem.W.Frag} {H : Hp} : ∀ {v : List V} {t : List PV}, IsL H v t → DpAll K H v (toDL t)
  | _, _, .nil => by simp only [toDL]; exact .nil
  | _, _, .cons a r => by simp only [toDL]; exact .cons (Is.dp a) (IsL.dp r)
end
section
variable {X : Cx}
theorem u200 {A : Around} {k : Nat} (r : Room k A) : A.units + 200 < cLine := by have := r.un; omega
def rNeP (K : PySem.W.Frag) : R2 := fun x y H Q => ∃ d e, Dp K H x d ∧ Dp K H y e ∧ d.canLay0 = true ∧ e.canLay0 = true ∧ d.depth ≤ 190 ∧ Q (.bl (!PyData.eqv d e)) H
theorem neP {K : PySem.W.Frag} (hu : X.A.units + 200 < cLine) (hK : X.K = K := by rfl) : OpR X (compareOp .NotEq) (rNeP K) := by
  subst hK
  intro pins s σ H x y v u Q I rx ry h
  obtain ⟨d, e, hd, he, sd, se, l, q⟩ := h
  obtain ⟨as, r1⟩ := Dp.reads I d x v hd rx
  obtain ⟨bs, r2⟩ := Dp.reads I e y u he ry
  exact SeqAt.compareNe_reads r1 r2 sd se (by omega) ⟨.bl _, H, I, rfl, q⟩
end
/-- the same data on both sides -/
theorem ne_same {K : PySem.W.Frag} {H : Hp} {v u : V} {t : PV} {Q : VK} (a : Is H v t) (b : Is H u t) (d : dep t ≤ 190) (q : Q (.bl false) H) : rNeP K v u H Q :=
  ⟨_, _, a.dp, b.dp, a.lay, b.lay, Nat.le_trans (deepD t) d, by rw [eqvD]; exact q⟩
theorem strs_is {H : Hp} : ∀ {zs : List Str}, (∀ z ∈ zs, sok z = true) → IsL H (zs.map V.str) (zs.map PV.str)
  | [], _ => .nil
  | z :: r, h => .cons (.str z (h z (List.mem_cons_self ..))) (strs_is fun x hx => h x (List.mem_cons_of_mem _ hx))
/-- a list of data on both sides -/
theorem ne_lists {K : PySem.W.Frag} {H : Hp} {a b : Addr} {vs us : List V} {ts : List PV} {Q : VK} (e1 : SqL K H a vs) (e2 : SqL K H b us) (i1 : IsL H vs ts) (i2 : IsL H us ts) (d : depL ts ≤ 180) (q : Q (.bl false) H) : rNeP K (.ref a) (.ref b) H Q :=
  ⟨.list (toDL ts), .list (toDL ts), .lst e1 i1.dp, .lst e2 i2.dp, by simp only [PyData.canLay0]; exact i1.lay, by simp only [PyData.canLay0]; exact i2.lay, by have := deepDL ts; simp only [PyData.depth]; omega, by
    simp only [PyData.eqv, eqvDL]; exact q⟩
end Kx
/-! x not in texts, x any data; a stronger promise gives a weaker one. -/
namespace Kx
open PySem PySem.Spec PyProof.Rows L2
def isIn (t : PV) (ws : List Str) : Bool := match t with
  | .str z => decide (z ∈ ws)
  | _ => false
theorem strs_dp {K : PySem.W.Frag} {H : Hp} : ∀ zs : List Str, DpAll K H (zs.map V.str) (zs.map PyData.str)
  | [] => .nil
  | z :: r => .cons (.str z) (strs_dp r)
theorem strs_lay : ∀ zs : List Str, (∀ z ∈ zs, sok z = true) → PyData.canLayAll0 (zs.map PyData.str) = true
  | [], _ => by simp [PyData.canLayAll0]
  | z :: r, h => by
    have a : PyData.canLay0 (.str z) = true := by simp only [PyData.canLay0]; exact h z (List.mem_cons_self ..)
    have b := strs_lay r fun x hx => h x (List.mem_cons_of_mem _ hx)
    simp only [List.map_cons, PyData.canLayAll0, a, b, Bool.and_self]
theorem strs_depth : ∀ zs : List Str, PyData.depthAll (zs.map PyData.str) ≤ 1
  | [] => by simp [PyData.depthAll]
  | z :: r => by have := strs_depth r; simp only [List.map_cons, PyData.depthAll, PyData.depth]; omega
theorem any_in (t : PV) : ∀ ws : List Str, ((ws.map PyData.str).any fun y => y.eqv (toD t)) = isIn t ws
  | [] => by cases t <;> simp [isIn]
  | w :: r => by
    have ih := any_in t r
    rw [List.map_cons, List.any_cons, ih]
    cases t with
    | str z =>
      have e : (PyData.str w).eqv (toD (.str z)) = decide (w = z) := by
        simp only [toD, PyData.eqv]
        by_cases h : w = z <;> simp [h]
      rw [e]
      simp only [isIn, List.mem_cons, Bool.decide_or]
      by_cases h : w = z
      · simp [h]
      · have h2 : ¬ z = w := fun q => h q.symm
        simp [h, h2]
    | int i => simp [toD, PyData.eqv, isIn]
    | tup l => simp [toD, PyData.eqv, isIn]
def rNotInD (K : PySem.W.Frag) : R2 := fun x y H Q => ∃ (p : Addr) (t : PV) (ws : List Str), y = .ref p ∧ (SqL K H p (ws.map V.str) ∨ SqT K H p (ws.map V.str)) ∧ Is H x t ∧ (∀ z ∈ ws, sok z = true) ∧ Q (.bl (!isIn t ws)) H
theorem notInD {X : Cx} {K : PySem.W.Frag} (hu : X.A.units + 200 < cLine) (hK : X.K = K := by rfl) : OpR X (compareOp .NotIn) (rNotInD K) := by
  subst hK
  intro pins s σ H x y v u Q I rx ry h
  obtain ⟨p, t, ws, rfl, hS, hI, ok, q⟩ := h
  obtain ⟨bs, r2⟩ := Dp.reads I _ _ _ hI.dp rx
  have dp := strs_depth ws
  rcases hS with hS | hS
  · obtain ⟨as, r1⟩ := Dp.reads I _ _ _ (Dp.lst hS (strs_dp ws)) ry
    exact SeqAt.notIn_list_reads r1 r2 (strs_lay ws ok) hI.lay (by omega) ⟨.bl _, H, I, rfl, by rw [any_in]; exact q⟩
  · obtain ⟨as, r1⟩ := Dp.reads I _ _ _ (Dp.tup hS (strs_dp ws)) ry
    exact SeqAt.notIn_tuple_reads r1 r2 (strs_lay ws ok) hI.lay (by omega) ⟨.bl _, H, I, rfl, by rw [any_in]; exact q⟩
theorem FnOk.weak {P : Program} {w : World} {K : PySem.W.Frag} {mg : Str → Option Value} {base : Heap} {k : Nat} {f : Addr} {fd : FuncData} {ps : List Str} {sp sp' : Sp} (F : FnOk P w K mg base CX0 k f fd ps sp) (h : ∀ vs H Q E, sp' vs H Q E → sp vs H Q E) : FnOk P w K mg base CX0 k f fd ps sp' :=
  ⟨fun vs H Q E g => F.len vs H Q E (h vs H Q E g), fun A outer s H args us vs Q E a b c d g => F.run A outer s H args us vs Q E a b c d (h vs H Q E g)⟩
theorem no_left {P : Program} {w : World} {K : PySem.W.Frag} {mg : Str → Option Value} {base : Heap} {f : Addr} {fd : FuncData} {ps : List Str} {k : Nat} {sp : Sp} (no : ∀ vs H Q E, ¬ sp vs H Q E) : FnOk P w K mg base CX0 k f fd ps sp :=
  ⟨fun vs H Q E h => absurd h (no vs H Q E), fun A outer s H args us vs Q E _ _ _ _ h => absurd h (no vs H Q E)⟩
def spNever : Sp := fun _ _ _ _ => False
end Kx
namespace Kx
open PySem PySem.Spec PyProof.Rows L2
section
variable {P : Program} {w : World} {K : PySem.W.Frag} {mg : Str → Option Value} {base : Heap}
/-- all but the lists at d and c stands; those are lists still -/
structure Ex (d c : Addr) (H H' : Hp) : Prop where
  but : ∀ b o, b ≠ d → b ≠ c → H b = some o → H' b = some o
  l1 : (∃ xs, H d = some (.lst xs)) → ∃ xs, H' d = some (.lst xs)
  l2 : (∃ xs, H c = some (.lst xs)) → ∃ xs, H' c = some (.lst xs)
theorem Ex.refl (d c : Addr) (H : Hp) : Ex d c H H := ⟨fun _ _ _ _ h => h, id, id⟩
theorem Ex.trans {d c : Addr} {H H1 H2 : Hp} (a : Ex d c H H1) (b : Ex d c H1 H2) : Ex d c H H2 := ⟨fun x o n1 n2 h => b.but x o n1 n2 (a.but x o n1 n2 h), fun h => b.l1 (a.l1 h), fun h => b.l2 (a.l2 h)⟩
theorem Ex.of {d c : Addr} {H H' : Hp} (s : Same H H') : Ex d c H H' := ⟨fun b o _ _ h => s b o h, fun ⟨xs, h⟩ => ⟨xs, s _ _ h⟩, fun ⟨xs, h⟩ => ⟨xs, s _ _ h⟩⟩
theorem Ex.set1 {d c : Addr} {H : Hp} (xs : List V) : Ex d c H (upd H d (.lst xs)) := ⟨fun b o n _ h => by rw [upd_ne n]; exact h, fun _ => ⟨xs, upd_same⟩, fun ⟨ys, h⟩ => by
  by_cases q : c = d
  · subst q; exact ⟨xs, upd_same⟩
  · exact ⟨ys, by rw [upd_ne q]; exact h⟩⟩
theorem Ex.set2 {d c : Addr} {H : Hp} (xs : List V) : Ex d c H (upd H c (.lst xs)) := ⟨fun b o _ n h => by rw [upd_ne n]; exact h, fun ⟨ys, h⟩ => (by
  by_cases q : d = c
  · subst q; exact ⟨xs, upd_same⟩
  · exact ⟨ys, by rw [upd_ne q]; exact h⟩), fun _ => ⟨xs, upd_same⟩⟩
theorem Ex.own {d c l : Addr} {H H1 : Hp} (x : Ex d c H H1) (hl : H l = none) (o : HO) : Ex d c H (upd H1 l o) :=
  ⟨fun b u n n2 h => by rw [upd_ne (ne_of_none h hl)]; exact x.but b u n n2 h, fun ⟨xs, e⟩ => by rw [upd_ne (ne_of_none e hl)]; exact x.l1 ⟨xs, e⟩, fun ⟨xs, e⟩ => by rw [upd_ne (ne_of_none e hl)]; exact x.l2 ⟨xs, e⟩⟩
/-- the state of the draws: a list of the cells and the seed -/
def Dr (H : Hp) (d c : Addr) : Prop := ∃ (ns : List Int) (m : Int), H d = some (.lst [.ref c, .int m]) ∧ H c = some (.lst (ns.map V.int)) ∧ c ≠ d ∧ (∀ n ∈ ns, 0 ≤ n) ∧ 0 ≤ m ∧ m < 2147483648 ∧ ns.length ≤ 63
theorem Dr.lst {H : Hp} {d c : Addr} (h : Dr H d c) : (∃ xs, H d = some (.lst xs)) ∧ ∃ xs, H c = some (.lst xs) := by
  obtain ⟨ns, m, e, e2, _⟩ := h
  exact ⟨⟨_, e⟩, _, e2⟩
theorem Dr.same {H H' : Hp} {d c : Addr} (s : Same H H') (h : Dr H d c) : Dr H' d c := by
  obtain ⟨ns, m, e, e2, r⟩ := h
  exact ⟨ns, m, s _ _ e, s _ _ e2, r⟩
theorem Dr.own {H : Hp} {d c l : Addr} {o : HO} (h : Dr H d c) (n1 : l ≠ d) (n2 : l ≠ c) : Dr (upd H l o) d c := by
  obtain ⟨ns, m, e, e2, r⟩ := h
  exact ⟨ns, m, by rw [upd_ne n1.symm]; exact e, by rw [upd_ne n2.symm]; exact e2, r⟩
theorem Dr.free {H : Hp} {d c l : Addr} (h : Dr H d c) (n : H l = none) : l ≠ d ∧ l ≠ c := by
  obtain ⟨ns, m, e, e2, r⟩ := h
  exact ⟨(ne_of_none e n).symm, (ne_of_none e2 n).symm⟩
/-- what is no list stands -/
theorem Ex.keep {d c b : Addr} {H H' : Hp} {o : HO} (x : Ex d c H H') (h : Dr H d c) (e : H b = some o) (n : ∀ xs, o ≠ .lst xs) : H' b = some o := by
  obtain ⟨⟨xs, h1⟩, ys, h2⟩ := h.lst
  refine x.but b o (fun q => ?_) (fun q => ?_) e
  · subst q; rw [h1] at e; exact n xs (Option.some.inj e).symm
  · subst q; rw [h2] at e; exact n ys (Option.some.inj e).symm
theorem Ex.tk {d c : Addr} {H H' : Hp} (x : Ex d c H H') (h : Dr H d c) : Tk H H' := fun a vs e => x.keep h e fun xs q => by cases q
theorem Is.ex {d c : Addr} {H H' : Hp} (x : Ex d c H H') (h : Dr H d c) {v : V} {t : PV} (i : Is H v t) : Is H' v t := i.tk (x.tk h)
theorem IsL.ex {d c : Addr} {H H' : Hp} (x : Ex d c H H') (h : Dr H d c) {v : List V} {t : List PV} (i : IsL H v t) : IsL H' v t := i.tk (x.tk h)
def spState (K : PySem.W.Frag) : Sp := fun vs H Q _ => ∃ (a : Addr) (ns : List Int), vs = [.ref a] ∧ SqL K H a (ns.map V.int) ∧ ns.length ≤ 63 ∧ ∀ d c H', Same H H' → Dr H' d c → Q (.ref d) H'
def spDraw : Sp := fun vs H Q _ => ∃ (d c : Addr) (n : Int), vs = [.ref d, .int n] ∧ Dr H d c ∧ 1 ≤ n ∧ n ≤ 1000 ∧ ∀ (r : Int) H', 0 ≤ r → r < n → Ex d c H H' → Dr H' d c → Q (.int r) H'
def spPick (K : PySem.W.Frag) : Sp := fun vs H Q _ => ∃ (d c p : Addr) (xs : List V), vs = [.ref d, .ref p] ∧ Dr H d c ∧ (H p = some (.lst xs) ∨ SqT K H p xs) ∧ p ≠ d ∧ p ≠ c ∧ 1 ≤ xs.length ∧ xs.length ≤ 1000 ∧ ∀ (x : V) H', x ∈ xs → Ex d c H H' → Dr H' d c → Q x H'
theorem fmb (a : Int) {b : Int} (hb : 0 < b) : 0 ≤ a.fmod b ∧ a.fmod b < b := ⟨Int.fmod_nonneg_of_pos a hb, Int.fmod_lt_of_pos a hb⟩
theorem at_int {ns : List Int} {i : Int} (h0 : 0 ≤ i) (h : i < ns.length) : ∃ x : Int, atI (ns.map V.int) i = some (.int x) := by
  have hk : i.toNat < ns.length := by omega
  have q : atI (ns.map V.int) ((i.toNat : Nat) : Int) = some (.int ns[i.toNat]) := atI_nat (by rw [List.getElem?_map, List.getElem?_eq_getElem hk] <;> rfl)
  rw [show ((i.toNat : Nat) : Int) = i by omega] at q
  exact ⟨_, q⟩
theorem ok_law_state (T : Txt K mg)  : FnOk P w K mg base CX0 1 T.a_law_state T.d_law_state ["script"] (spState K) := by
  refine T.F_law_state.ok sc_law_state (fun vs H Q E h => ?_) (fun cdv A outer s H vs Q E hr h => ?_)
  · obtain ⟨a, ns, rfl, _⟩ := h; rfl
  · obtain ⟨a, ns, rfl, hS, hl, q⟩ := h
    refine ⟨_, (pss_cons (ps_set (i := 1) sc_law_state.nd rfl (Or.inl rfl) pe_int)
    (pss_cons (ps_for PassesOwn.never rfl (pi_list (pv 0)) (pg_name (i := 2) sc_law_state.nd rfl (Or.inl rfl))
    (pss_one (ps_set (i := 1) sc_law_state.nd rfl (Or.inl rfl) (pe_op op_modN (pe_callTy call_int1 (by rfl) T.z_int (by decide +kernel) (pa_cons (pe_op op_add (pe_op op_mul (pv 1) pe_int) (pv 2)) pa_nil)) pe_int))))
    (pss_one (ps_ret (pe_lst (pa_cons (pe_lc (own := [("cell", 2)]) (g := (gName 2)) (tt := tYes) rfl sc_law_state.nd (pi_list (pv 0)) (blkOk_by (own := [("cell", 2)]) (N := ["script", "seed", "cell"]) (sc := defScope s_law_state) (by decide +kernel)) (fun _ _ _ _ _ => (pg_name (i := 2) sc_law_state.nd rfl (Or.inl rfl))) (fun _ _ _ _ _ => pts_nil) (fun _ _ _ _ _ => (pe_callB call_abs (by rfl) T.z_abs (by decide +kernel) (pa_cons (pe_callTy call_int1 (by rfl) T.z_int (by decide +kernel) (pa_cons (pv 2) pa_nil)) pa_nil)))) (pa_cons (pe_op op_add (pv 1) pe_int) pa_nil))))))), ?_⟩
    refine ⟨_, rfl, a, rfl, ⟨_, hS⟩, for_list (K := K) (a := a) (xs := ns.map V.int) (fun i σ H2 => ∃ m y, σ = [some (.ref a), some (.int m), y] ∧ H2 = H ∧ 0 ≤ m ∧ m < 1000003) ⟨7, none, rfl, rfl, by omega, by omega⟩ (fun i σ H2 _ ⟨_, _, _, e, _⟩ => by rw [e]; exact hS) ?_ ?_⟩
    · rintro i x σ H2 hx ⟨m, y, rfl, rfl, m0, m1⟩
      obtain ⟨n, _, rfl⟩ := List.mem_map.mp (List.mem_of_getElem? hx)
      obtain ⟨b0, b1⟩ := fmb (m * 31 + n) (b := 1000003) (by decide)
      exact ⟨_, rfl, _, _, rfl, rfl, .inl ⟨by omega, by omega⟩, _, rfl, _, _, rfl, rfl, .inl ⟨_, rfl, _, _, rfl, rfl, (by show (1000003 : Int) ≠ 0; decide), _, _, rfl, rfl, b0, b1⟩⟩
    · rintro σ H2 ⟨m, y, rfl, rfl, m0, m1⟩
      refine ⟨_, rfl, a, rfl, ⟨_, hS⟩, fun D hD => ?_⟩
      refine lc_list (K := K) (a := a) (xs := ns.map V.int) (fun i H3 => ∃ ms : List Int, H3 = upd H2 D (.lst (ms.map V.int)) ∧ ms.length = i ∧ ∀ n ∈ ms, 0 ≤ n) ⟨[], rfl, rfl, fun _ h => by cases h⟩ (fun i H3 _ ⟨ms, e, _⟩ => ?_) ?_ ?_
      · rw [e]; exact (same_upd hD _).seq hS
      · rintro i x H3 hx ⟨ms, rfl, hlen, hpos⟩
        have hi := (List.getElem?_eq_some_iff.mp hx).1
        rw [List.length_map] at hi
        obtain ⟨n, _, rfl⟩ := List.mem_map.mp (List.mem_of_getElem? hx)
        refine ⟨rfl, yes_if ⟨_, rfl, .inl ⟨_, rfl, _, rfl, ms.map V.int, upd_same, ?_, ms ++ [if n < 0 then -n else n], ?_, ?_, ?_⟩⟩⟩
        · rw [List.length_map]; exact small1000 (by omega)
        · rw [upd_upd, List.map_append]; rfl
        · rw [List.length_append, hlen]; rfl
        · intro z hz
          rcases List.mem_append.mp hz with hz | hz
          · exact hpos z hz
          · rw [List.mem_singleton.mp hz]; split <;> omega
      · rintro H3 ⟨ms, rfl, hlen, hpos⟩
        rw [List.length_map] at hlen
        refine ⟨_, rfl, _, _, rfl, rfl, (by show 2 ≤ sizeLine; decide), fun d hd => ?_⟩
        have n1 : D ≠ d := ne_of_none upd_same hd
        exact q d D _ ((same_upd hD _).trans (same_upd hd _)) ⟨ms, m + 1, upd_same, by rw [upd_ne n1, upd_same], n1, hpos, by omega, by omega, by omega⟩
theorem ok_law_draw (T : Txt K mg)  : FnOk P w K mg base CX0 1 T.a_law_draw T.d_law_draw ["state", "many"] spDraw := by
  refine T.F_law_draw.ok sc_law_draw (fun vs H Q E h => ?_) (fun cdv A outer s H vs Q E hr h => ?_)
  · obtain ⟨d, c, n, rfl, _⟩ := h; rfl
  · obtain ⟨d, c, n, rfl, hD, h1, h2, q⟩ := h
    have nz : n ≠ 0 := by omega
    refine ⟨_, (pss_cons (ps_set (i := 2) sc_law_draw.nd rfl (Or.inl rfl) (pe_ix ix_list (pv 0) pe_int (fun _ _ => rfl)))
    (Evl.pss_cut (ps_while PassesOwn.never (PW.pt (pw_and (pt_cmpR op_gt (pe_callB call_len_seq (by rfl) T.z_len (by decide +kernel) (pa_cons (pv 2) pa_nil)) pe_int (nomark _)) (pw_and1 (pt_cmpR op_eq (pe_ix ix_list (pv 2) pe_int (fun _ _ => rfl)) pe_int (nomark _)))))
    (pss_one (ps_expr (pe_bm PySem.F.plainAttrs_list PySem.F.slot_list_pop PySem.F.type_list_pop mt_popAt (pv 2) (pa_cons pe_int pa_nil)))))
    (pss_cons (ps_if (pt_cmpR op_gt (pe_callB call_len_seq (by rfl) T.z_len (by decide +kernel) (pa_cons (pv 2) pa_nil)) pe_int (nomark _)) (pss_cons (ps_set (i := 3) sc_law_draw.nd rfl (Or.inl rfl) (pe_ix ix_list (pv 2) pe_int (fun _ _ => rfl)))
    (pss_cons (ps_asg (pe_op op_fdivN (pv 3) (pv 1)) (pg_sub (pv 2) pe_int set_list))
    (pss_one (ps_ret (pe_op op_modN (pe_callTy call_int1 (by rfl) T.z_int (by decide +kernel) (pa_cons (pv 3) pa_nil)) (pv 1)))))) pss_nil)
    (pss_cons (ps_set (i := 4) sc_law_draw.nd rfl (Or.inl rfl) (pe_op op_modN (pe_callTy call_int1 (by rfl) T.z_int (by decide +kernel) (pa_cons (pe_op op_add (pe_op op_mul (pe_ix ix_list (pv 0) pe_int (fun _ _ => rfl)) pe_int) pe_int) pa_nil)) pe_int))
    (pss_cons (ps_asg (pv 4) (pg_sub (pv 0) pe_int set_list))
    (pss_one (ps_ret (pe_op op_modN (pe_callTy call_int1 (by rfl) T.z_int (by decide +kernel) (pa_cons (pe_op op_fdivN (pv 4) pe_int) pa_nil)) (pv 1))))))))), ?_⟩
    obtain ⟨ns, m, e, e2, hn, hpos, m0, m1, hl⟩ := id hD
    refine ⟨_, rfl, d, _, _, _, rfl, rfl, SqL.of e, rfl, ?_⟩
    refine ⟨fun σ H2 => ∃ ms : List Int, σ = [some (.ref d), some (.int n), some (.ref c), none, none] ∧ H2 d = some (.lst [.ref c, .int m]) ∧ H2 c = some (.lst (ms.map V.int)) ∧ ms.length ≤ 63 ∧ (∀ z ∈ ms, 0 ≤ z) ∧ Ex d c H H2, ?_, ?_⟩
    · refine ⟨fun k σ H2 => ∃ ms : List Int, σ = [some (.ref d), some (.int n), some (.ref c), none, none] ∧ H2 d = some (.lst [.ref c, .int m]) ∧ H2 c = some (.lst (ms.map V.int)) ∧ ms.length = k ∧ k ≤ 63 ∧ (∀ z ∈ ms, 0 ≤ z) ∧ Ex d c H H2, ⟨ns.length, ns, rfl, e, e2, rfl, hl, hpos, .refl _ _ _⟩, ?_⟩
      rintro k σ H2 ⟨ms, rfl, f1, f2, hk, k63, hp, hx⟩
      refine ⟨_, rfl, c, _, rfl, .inl (SqL.of f2), _, _, rfl, rfl, _, rfl, ite2 (fun cz => ?_) (fun _ => iteF ⟨ms, rfl, f1, f2, by omega, hp, hx⟩)⟩
      cases ms with
      | nil => cases cz
      | cons x ms =>
      refine ⟨_, rfl, c, _, _, V.int x, rfl, rfl, SqL.of f2, atI_nat (j := 0) rfl, rfl, _, rfl, ite2 (fun c0 => ?_) (fun _ => ⟨_, rfl, f1, f2, by omega, hp, hx⟩)⟩
      refine ⟨fun σ' H' => ∃ ms' : List Int, σ' = [some (.ref d), some (.int n), some (.ref c), none, none] ∧ H' d = some (.lst [.ref c, .int m]) ∧ H' c = some (.lst (ms'.map V.int)) ∧ ms'.length < k ∧ k ≤ 63 ∧ (∀ z ∈ ms', 0 ≤ z) ∧ Ex d c H H', fun σ' H' ⟨ms', r1, r2, r3, r4, r5, r6, r7⟩ => ⟨ms'.length, r4, ms', r1, r2, r3, rfl, by omega, r6, r7⟩, ?_⟩
      have z0 : ixN ((x :: ms).map V.int).length 0 = some 0 := Evl.ixN_nat (j := 0) (by rw [List.length_map, List.length_cons]; omega)
      refine ⟨_, rfl, .inl ⟨rfl, _, SqL.of f2⟩, c, _, 0, 0, _, rfl, rfl, f2, by decide, by decide, (ixN_seq z0).1, rfl, ms, rfl, by rw [upd_ne hn.symm]; exact f1, by rw [upd_same]; rfl, by rw [List.length_cons] at hk; omega, k63, fun z hz => hp z (List.mem_cons_of_mem _ hz), hx.trans (.set2 _)⟩
    · rintro σ H2 ⟨ms, rfl, f1, f2, k63, hp, hx⟩
      refine ⟨_, rfl, c, _, rfl, .inl (SqL.of f2), _, _, rfl, rfl, _, rfl, ite2 (fun cz => ?_) (fun _ => ?_)⟩
      · cases ms with
        | nil => cases cz
        | cons x ms =>
        have x0 := hp x (List.mem_cons_self ..)
        have z0 : ixN ((x :: ms).map V.int).length 0 = some 0 := Evl.ixN_nat (j := 0) (by rw [List.length_map, List.length_cons]; omega)
        refine ⟨_, rfl, c, _, _, V.int x, rfl, rfl, SqL.of f2, atI_nat (j := 0) rfl, _, rfl, _, rfl, _, _, rfl, rfl, ⟨nz, by omega⟩, _, rfl, c, _, _, 0, rfl, rfl, f2, z0, _, rfl, .inl ⟨_, rfl, _, rfl, _, _, rfl, rfl, nz, ?_⟩⟩
        obtain ⟨b0, b1⟩ := fmb x (b := n) (by omega)
        refine q _ _ b0 b1 (hx.trans (.set2 _)) ⟨x.fdiv n :: ms, m, by rw [upd_ne hn.symm]; exact f1, upd_same, hn, fun z hz => ?_, m0, m1, k63⟩
        rcases List.mem_cons.mp hz with rfl | hz
        · exact Int.fdiv_nonneg x0 (by omega)
        · exact hp z (List.mem_cons_of_mem _ hz)
      · obtain ⟨b0, b1⟩ := fmb (m * 48271 + 12345) (b := 2147483647) (by decide)
        refine ⟨_, rfl, d, _, _, _, rfl, rfl, SqL.of f1, rfl, _, _, rfl, rfl, .inl ⟨by omega, by omega⟩, _, _, rfl, rfl, .inl ⟨_, rfl, _, _, rfl, rfl, (by show (2147483647 : Int) ≠ 0; decide), _, rfl, _, rfl, d, _, _, 1, rfl, rfl, f1, rfl, ?_⟩⟩
        refine ⟨_, rfl, _, _, rfl, rfl, ⟨by decide, by decide⟩, .inl ⟨_, rfl, _, rfl, _, _, rfl, rfl, nz, ?_⟩⟩
        obtain ⟨c0, c1⟩ := fmb (((m * 48271 + 12345).fmod 2147483647).fdiv 64) (b := n) (by omega)
        exact q _ _ c0 c1 (hx.trans (.set1 _)) ⟨ms, _, upd_same, by rw [upd_ne hn]; exact f2, hn, hp, b0, by omega, k63⟩
theorem ok_law_pick (T : Txt K mg) (G_law_draw : FnOk P w K mg base CX0 1 T.a_law_draw T.d_law_draw ["state", "many"] spDraw) : FnOk P w K mg base CX0 2 T.a_law_pick T.d_law_pick ["state", "row"] (spPick K) := by
  refine T.F_law_pick.ok sc_law_pick (fun vs H Q E h => ?_) (fun cdv A outer s H vs Q E hr h => ?_)
  · obtain ⟨d, c, p, xs, rfl, _⟩ := h; rfl
  · obtain ⟨d, c, p, xs, rfl, hD, hP, hn, hn2, h1, h2, q⟩ := h
    have hr_law_draw := hr
    refine ⟨_, (pss_one (ps_ret (pe_ix ix_seq (pv 1) (pe_call G_law_draw hr_law_draw rfl T.m_law_draw T.F_law_draw.kp T.b_law_draw .nil pass0 (pa_cons (pv 0) (pa_cons (pe_callB call_len_seq (by rfl) T.z_len (by decide +kernel) (pa_cons (pv 1) pa_nil)) pa_nil))) (fun _ _ => rfl)))), ?_⟩
    have seqs : ∀ H', Ex d c H H' → H' p = some (.lst xs) ∨ SqT K H' p xs := fun H' x => by
      rcases hP with e | (e | ⟨o, e⟩) | e
      · exact .inl (x.but _ _ hn hn2 e)
      · exact .inr (.inl (.inl (x.but _ _ hn hn2 e)))
      · exact .inr (.inl (.inr ⟨o, x.but _ _ hn hn2 e⟩))
      · exact .inr (.inr e)
    refine ⟨_, rfl, _, rfl, _, rfl, p, xs, rfl, hP.imp SqL.of id, d, c, _, rfl, hD, by omega, by omega, fun r H' r0 r1 hx hD' => ?_⟩
    have hk : r.toNat < xs.length := by omega
    have hat : atI xs r = some (xs[r.toNat]) := by
      have z : atI xs ((r.toNat : Nat) : Int) = some (xs[r.toNat]) := atI_nat (List.getElem?_eq_getElem hk)
      rwa [show ((r.toNat : Nat) : Int) = r by omega] at z
    have fin := q (xs[r.toNat]) H' (List.getElem_mem hk) hx hD'
    rcases seqs H' hx with e | e
    · exact .inl ⟨p, _, _, _, rfl, rfl, SqL.of e, hat, fin⟩
    · exact .inr (.inl ⟨p, _, _, _, rfl, rfl, e, hat, fin⟩)
end
end Kx
namespace Kx
open PySem PySem.Spec PyProof.Rows L2
section
variable {P : Program} {w : World} {K : PySem.W.Frag} {mg : Str → Option Value} {base : Heap}
/-! ### data that is written down -/
def MkE (σ : L2.St) (H0 : Hp) (te : TE) (t : PV) : Prop := ∀ (H : Hp) (Q : VK), Same H0 H → (∀ v H', Same H H' → Is H' v t → Q v H') → te σ H Q
def MkA (σ : L2.St) (H0 : Hp) (ta : TA) (ts : List PV) : Prop := ∀ (H : Hp) (Q : List V → Hp → Prop), Same H0 H → (∀ vs H', Same H H' → IsL H' vs ts → Q vs H') → ta σ H Q
theorem mk_var {σ : L2.St} {H0 : Hp} {i : Nat} {v : V} {t : PV} (e : σ[i]? = some (some v)) (h : Is H0 v t) : MkE σ H0 (tVar i) t := fun H Q s q => ⟨v, e, q v H (.refl _) (h.same s)⟩
theorem mk_str {σ : L2.St} {H0 : Hp} {z : Str} (h : sok z = true) : MkE σ H0 (tC (.str z)) (.str z) := fun H Q s q => q _ H (.refl _) (.str z h)
theorem mk_nil {σ : L2.St} {H0 : Hp} : MkA σ H0 tNil [] := fun H Q s q => q [] H (.refl _) .nil
theorem mk_cons {σ : L2.St} {H0 : Hp} {te : TE} {ta : TA} {t : PV} {ts : List PV} (a : MkE σ H0 te t) (b : MkA σ H0 ta ts) : MkA σ H0 (tCons te ta) (t :: ts) := fun H Q s q =>
  a H _ s fun v H1 s1 i1 => b H1 _ (s.trans s1) fun vs H2 s2 i2 => q _ H2 (s1.trans s2) (.cons (i1.same s2) i2)
theorem mk_tup {σ : L2.St} {H0 : Hp} {ta : TA} {ts : List PV} (a : MkA σ H0 ta ts) (hl : ts.length ≤ 1000) : MkE σ H0 (tTup ta) (.tup ts) := fun H Q s q =>
  a H _ s fun vs H1 s1 i1 => ⟨Nat.le_of_lt (small1000 (by rw [i1.len]; exact hl)), fun p hp => q _ _ (s1.trans (same_upd hp _)) (.tup upd_same (i1.same (same_upd hp _)))⟩
theorem mk_go {σ : L2.St} {H : Hp} {te : TE} {t : PV} {Q : VK} (m : MkE σ H te t) (q : ∀ v H', Same H H' → Is H' v t → Q v H') : te σ H Q := m H Q (.refl _) q
theorem go_asg {σ : L2.St} {H : Hp} {te : TE} {t : PV} {g : TG} {rest : TS} {D : Ends} (m : MkE σ H te t) (q : ∀ v H1, Same H H1 → Is H1 v t → g v σ H1 fun σ2 H2 => rest D σ2 H2) : tSeq (tAsg te g) rest D σ H := m H _ (.refl _) q
theorem go_kind {i : Nat} {σ : L2.St} {H : Hp} {te : TE} {rest : TS} {D : Ends} {k j : Int} (e : σ[i]? = some (some (.int k))) (y : k = j → te σ H D.rt) (n : k ≠ j → rest D σ H) : tSeq (tIfS (tTest (tOp rEq (tVar i) (tC (.int j)))) (tRet te) tNext) rest D σ H := by
  refine ⟨_, e, rfl, _, rfl, ?_⟩
  rw [dec_int]
  by_cases h : k = j
  · have : (k == j) = true := by simpa using h
    rw [this]; exact iteT (y h)
  · have : (k == j) = false := by simpa using h
    rw [this]; exact iteF (n h)
theorem mk_list {σ : L2.St} {H0 H : Hp} {ta : TA} {ts : List PV} {Q : VK} (a : MkA σ H0 ta ts) (s : Same H0 H) (hl : ts.length ≤ 1000) (q : ∀ l vs H', H l = none → Same H H' → H' l = some (.lst vs) → IsL H' vs ts → Q (.ref l) H') : tLst ta σ H Q :=
  a H _ s fun vs H1 s1 i1 => ⟨Nat.le_of_lt (small1000 (by rw [i1.len]; exact hl)), fun p hp => q p vs _ (s1.free hp) (s1.trans (same_upd hp _)) upd_same (i1.same (same_upd hp _))⟩
theorem mk_add {σ : L2.St} {H0 : Hp} {i : Nat} {m n : Str} (e : σ[i]? = some (some (.str m))) (h : sok (m ++ n) = true) (l : m.length + n.length ≤ sizeLine) : MkE σ H0 (tOp (fun x y H Q => ∃ i j, x = .str i ∧ y = .str j ∧ i.length + j.length ≤ sizeLine ∧ Q (.str (i ++ j)) H) (tVar i) (tC (.str n))) (.str (m ++ n)) := fun H Q s q =>
  ⟨_, e, _, _, rfl, rfl, l, q _ H (.refl _) (.str _ h)⟩
theorem go_catT {H : Hp} {a b : Addr} {xs ys : List V} {ts us : List PV} {Q : VK} (ea : H a = some (.tup xs)) (eb : H b = some (.tup ys)) (ix : IsL H xs ts) (iy : IsL H ys us) (ne : ts ≠ []) (l : ts.length + us.length ≤ 900)
    (q : ∀ u H', Same H H' → Is H' u (.tup (ts ++ us)) → Q u H') : rCatT K (.ref a) (.ref b) H Q := by
  have lx := ix.len
  have ly := iy.len
  refine ⟨a, b, xs, ys, rfl, rfl, .inl (.inl ea), .inl (.inl eb), fun z => ne ?_, Nat.le_of_lt (small1000 (by omega)), fun z => ?_, fun _ p hp => ?_⟩
  · rw [z] at lx
    exact List.eq_nil_of_length_eq_zero lx.symm
  · rw [z] at ly
    have : us = [] := List.eq_nil_of_length_eq_zero ly.symm
    rw [this, List.append_nil] at q
    exact q _ H (.refl _) (.tup ea ix)
  · have s := same_upd hp (.tup (xs ++ ys))
    exact q _ _ s (.tup upd_same ((ix.append iy).same s))
theorem Tk.wr {H : Hp} {a : Addr} {xs : List V} (e : ∃ ys, H a = some (.lst ys)) : Tk H (upd H a (.lst xs)) := fun b vs h => by
  obtain ⟨ys, e⟩ := e
  by_cases q : b = a
  · subst q; rw [e] at h; cases h
  · rw [upd_ne q]; exact h
theorem cntL_le {l : List PV} {m : Nat} (h : ∀ t ∈ l, cnt t ≤ m) : cntL l ≤ l.length * m := by
  induction l with
  | nil => simp [cntL]
  | cons a r ih =>
    have h1 := h a (List.mem_cons_self ..)
    have h2 := ih fun t ht => h t (List.mem_cons_of_mem _ ht)
    simp only [cntL, List.length_cons, Nat.add_mul]; omega
/-- the two names with a mark -/
def marks (m : Str) : List Str := [m ++ "0", m ++ "1"]
def patOf (m : Str) (k : Int) : PV :=
  if k = 0 then .str (m ++ "0") else
  if k = 1 then .tup [.str "K0"] else
  if k = 2 then .tup [.str "K2", .str (m ++ "0"), .str (m ++ "1")] else
  if k = 3 then .tup [.str "K1", .tup [.str "K1", .str (m ++ "0")]] else
  .tup [.str "K1", .str (m ++ "0")]
theorem marks_ne {m : Str} (h : m = "x" ∨ m = "y") : m ++ "0" ≠ m ++ "1" := by
  rcases h with rfl | rfl <;> decide +kernel
theorem marks_nm {m : Str} (h : m = "x" ∨ m = "y") : ∀ z ∈ marks m, z ∈ NM := by
  rcases h with rfl | rfl <;> decide +kernel
theorem pat_good {m : Str} (h : m = "x" ∨ m = "y") (k : Int) : PatG (patOf m k) ∧ (lv (patOf m k)).Nodup ∧ ∀ z ∈ lv (patOf m k), z ∈ marks m := by
  have ne := marks_ne h
  have k0 : (("K0" : Str), 0) ∈ KA := by decide +kernel
  have k1 : (("K1" : Str), 1) ∈ KA := by decide +kernel
  have k2 : (("K2" : Str), 2) ∈ KA := by decide +kernel
  have key : ∀ (c : Prop) [Decidable c] (a b : PV), (PatG a ∧ (lv a).Nodup ∧ ∀ z ∈ lv a, z ∈ marks m) → (PatG b ∧ (lv b).Nodup ∧ ∀ z ∈ lv b, z ∈ marks m) → (PatG (if c then a else b) ∧ (lv (if c then a else b)).Nodup ∧ ∀ z ∈ lv (if c then a else b), z ∈ marks m) := fun c _ a b x y => by split <;> assumption
  unfold patOf
  repeat' refine key _ _ _ ?_ ?_
  all_goals refine ⟨⟨?_, ?_, ?_⟩, ?_, ?_⟩
  all_goals first
    | (simp [Ap, ApL, k0, k1, k2]; done)
    | (simp [dep, depL]; done)
    | (simp [cnt, cntL]; done)
    | (simp [lv, lvL, marks, ne]; done)
def spPat : Sp := fun vs H Q _ => ∃ (d c : Addr) (m : Str), vs = [.ref d, .str m] ∧ (m = "x" ∨ m = "y") ∧ Dr H d c ∧ ∀ v t H', Ex d c H H' → Dr H' d c → Is H' v t → PatG t ∧ (lv t).Nodup ∧ (∀ z ∈ lv t, z ∈ marks m) → Q v H'
theorem ok_law_graph_pattern (T : Txt K mg) (G_law_draw : FnOk P w K mg base CX0 1 T.a_law_draw T.d_law_draw ["state", "many"] spDraw) : FnOk P w K mg base CX0 2 T.a_law_graph_pattern T.d_law_graph_pattern ["state", "mark"] spPat := by
  refine T.F_law_graph_pattern.ok sc_law_graph_pattern (fun vs H Q E h => ?_) (fun cdv A outer s H vs Q E hr h => ?_)
  · obtain ⟨d, c, m, rfl, _⟩ := h; rfl
  · obtain ⟨d, c, m, rfl, hm, hD, q⟩ := h
    have hr_law_draw := hr
    refine ⟨_, (pss_cons (ps_set (i := 2) sc_law_graph_pattern.nd rfl (Or.inl rfl) (pe_call G_law_draw hr_law_draw rfl T.m_law_draw T.F_law_draw.kp T.b_law_draw .nil pass0 (pa_cons (pv 0) (pa_cons pe_int pa_nil))))
    (pss_cons (ps_if (pt_cmpR op_eq (pv 2) pe_int (nomark _)) (pss_one (ps_ret (pe_op op_add_str (pv 1) pe_str))) pss_nil)
    (pss_cons (ps_if (pt_cmpR op_eq (pv 2) pe_int (nomark _)) (pss_one (ps_ret (pe_tup (pa_cons pe_str pa_nil)))) pss_nil)
    (pss_cons (ps_if (pt_cmpR op_eq (pv 2) pe_int (nomark _)) (pss_one (ps_ret (pe_tup (pa_cons pe_str (pa_cons (pe_op op_add_str (pv 1) pe_str) (pa_cons (pe_op op_add_str (pv 1) pe_str) pa_nil)))))) pss_nil)
    (pss_cons (ps_if (pt_cmpR op_eq (pv 2) pe_int (nomark _)) (pss_one (ps_ret (pe_tup (pa_cons pe_str (pa_cons (pe_tup (pa_cons pe_str (pa_cons (pe_op op_add_str (pv 1) pe_str) pa_nil))) pa_nil))))) pss_nil)
    (pss_one (ps_ret (pe_tup (pa_cons pe_str (pa_cons (pe_op op_add_str (pv 1) pe_str) pa_nil)))))))))), ?_⟩
    refine ⟨_, rfl, d, c, 5, rfl, hD, by decide, by decide, fun k H1 k0 k7 x1 D1 => ?_⟩
    have o0 : sok (m ++ "0") = true := by rcases hm with rfl | rfl <;> decide +kernel
    have o1 : sok (m ++ "1") = true := by rcases hm with rfl | rfl <;> decide +kernel
    have l0 : m.length + ("0" : Str).length ≤ sizeLine := by rcases hm with rfl | rfl <;> decide +kernel
    have l1 : m.length + ("1" : Str).length ≤ sizeLine := by rcases hm with rfl | rfl <;> decide +kernel
    have fin : ∀ {te : TE} {σ : L2.St} {t : PV}, patOf m k = t → MkE σ H1 te t → te σ H1 Q := fun {te σ t} e mk => mk_go mk fun v H2 s2 i2 =>
      q v t H2 (x1.trans (.of s2)) (D1.same s2) i2 (e ▸ pat_good hm k)
    have cut : ∀ {i : Nat} {σ : L2.St} {te : TE} {rest : TS} {D : Ends} {j : Int}, σ[i]? = some (some (.int k)) → (k = j → te σ H1 D.rt) → (k ≠ j → rest D σ H1) → tSeq (tIfS (tTest (tOp rEq (tVar i) (tC (.int j)))) (tRet te) tNext) rest D σ H1 := fun e y n => go_kind e y n
    refine cut rfl (fun h0 => fin (t := .str (m ++ "0")) (by unfold patOf; rw [if_pos h0]) (mk_add rfl o0 l0)) fun h0 => ?_
    refine cut rfl (fun h1 => fin (t := .tup [.str "K0"]) (by unfold patOf; rw [if_neg h0, if_pos h1]) ?_) fun h1 => ?_
    · (repeat (first | exact mk_nil | refine mk_cons ?_ ?_ | refine mk_tup ?_ (by simp) | exact mk_str (by decide +kernel) | (refine mk_var rfl ?_; assumption)))
    refine cut rfl (fun h2 => fin (t := .tup [.str "K2", .str (m ++ "0"), .str (m ++ "1")]) (by unfold patOf; rw [if_neg h0, if_neg h1, if_pos h2]) ?_) fun h2 => ?_
    · (repeat (first | exact mk_nil | exact mk_add rfl o0 l0 | exact mk_add rfl o1 l1 | refine mk_cons ?_ ?_ | refine mk_tup ?_ (by simp) | exact mk_str (by decide +kernel)))
    refine cut rfl (fun h3 => fin (t := .tup [.str "K1", .tup [.str "K1", .str (m ++ "0")]]) (by unfold patOf; rw [if_neg h0, if_neg h1, if_neg h2, if_pos h3]) ?_) fun h3 => ?_
    · (repeat (first | exact mk_nil | exact mk_add rfl o0 l0 | exact mk_add rfl o1 l1 | refine mk_cons ?_ ?_ | refine mk_tup ?_ (by simp) | exact mk_str (by decide +kernel)))
    refine fin (t := .tup [.str "K1", .str (m ++ "0")]) (by unfold patOf; rw [if_neg h0, if_neg h1, if_neg h2, if_neg h3]) ?_
    (repeat (first | exact mk_nil | exact mk_add rfl o0 l0 | exact mk_add rfl o1 l1 | refine mk_cons ?_ ?_ | refine mk_tup ?_ (by simp) | exact mk_str (by decide +kernel)))
end
end Kx
namespace Kx
open PySem PySem.Spec PyProof.Rows L2
section
variable {P : Program} {w : World} {K : PySem.W.Frag} {mg : Str → Option Value} {base : Heap}
/-- makers, and functions with so many params -/
def AS (SZ : List Nat) : List (Str × Nat) := KA ++ (List.range SZ.length).map fun i => (fw i, SZ.getD i 0)
theorem as_fn {SZ : List Nat} {i : Nat} (h : i < SZ.length) : (fw i, SZ.getD i 0) ∈ AS SZ := List.mem_append_right _ (List.mem_map.mpr ⟨i, List.mem_range.mpr h, rfl⟩)
theorem as_ka {SZ : List Nat} {p : Str × Nat} (h : p ∈ KA) : p ∈ AS SZ := List.mem_append_left _ h
theorem num_log : ∀ n : Nat, n < 12 → ((n : Nat) : Int).natAbs.log2 < 1920 := by decide +kernel
theorem num_len : ∀ n : Nat, n < 12 → ("f" : Str).length + (toString ((n : Nat) : Int) : Str).length ≤ sizeLine := by decide +kernel
/-- what a body is made of -/
structure BdG (d c pl nl : Addr) (kvs : List (Key × V)) (SZ : List Nat) (ns : List Str) (H : Hp) : Prop where
  dr : Dr H d c
  ep : H pl = some (.dK kvs)
  pw : ∀ i, i < SZ.length → ∃ (q : Addr) (a : Int), valV kvs (Sum.inr (fw i)) = some (.ref q) ∧ H q = some (.tup [.int ((SZ.getD i 0 : Nat) : Int), .int a])
  sz : ∀ i, i < SZ.length → 1 ≤ SZ.getD i 0 ∧ SZ.getD i 0 ≤ 2
  len : SZ.length ≤ 4
  en : H nl = some (.lst (ns.map V.str))
  n1 : ns.length ≤ 40
  ok : ∀ z ∈ ns, sok z = true
  nn : nl ≠ d ∧ nl ≠ c
section
variable {d c pl nl : Addr} {kvs : List (Key × V)} {SZ : List Nat} {ns : List Str} {H H' : Hp}
theorem BdG.ex (x : Ex d c H H') (D : Dr H' d c) (B : BdG d c pl nl kvs SZ ns H) : BdG d c pl nl kvs SZ ns H' :=
  ⟨D, x.keep B.dr B.ep (fun _ z => by cases z), fun i hi => (by
    obtain ⟨q, a, e1, e2⟩ := B.pw i hi
    exact ⟨q, a, e1, x.tk B.dr _ _ e2⟩), B.sz, B.len, x.but _ _ B.nn.1 B.nn.2 B.en, B.n1, B.ok, B.nn⟩
theorem BdG.same (s : Same H H') (B : BdG d c pl nl kvs SZ ns H) : BdG d c pl nl kvs SZ ns H' := B.ex (.of s) (B.dr.same s)
/-- a new list's own change -/
theorem BdG.own {l : Addr} {H0 : Hp} {o : HO} (B : BdG d c pl nl kvs SZ ns H) (B0 : BdG d c pl nl kvs SZ ns H0) (n : H0 l = none) : BdG d c pl nl kvs SZ ns (upd H l o) := by
  have f := fun {b : Addr} {o : HO} (e : H0 b = some o) => (ne_of_none e n : b ≠ l)
  obtain ⟨f1, f2⟩ := B0.dr.free n
  refine ⟨B.dr.own f1 f2, by rw [upd_ne (f B0.ep)]; exact B.ep, fun i hi => ?_, B.sz, B.len, by rw [upd_ne (f B0.en)]; exact B.en, B.n1, B.ok, B.nn⟩
  obtain ⟨q, a, e1, e2⟩ := B.pw i hi
  obtain ⟨q', a', e1', e2'⟩ := B0.pw i hi
  have : q = q' := by rw [e1] at e1'; cases e1'; rfl
  subst this
  exact ⟨q, a, e1, by rw [upd_ne (f e2')]; exact e2⟩
end
def bsz : Nat → Nat
  | 0 => 2
  | k + 1 => 2 + 2 * bsz k
theorem bsz_two : ∀ k, 2 ≤ bsz k
  | 0 => Nat.le_refl 2
  | k + 1 => by show 2 ≤ 2 + 2 * bsz k; omega
def spBody (n : Nat) : Sp := fun vs H Q _ => ∃ (d c pl nl : Addr) (kvs : List (Key × V)) (SZ : List Nat) (ns : List Str) (k j : Nat), vs = [.ref d, .ref pl, .ref nl, .int k, .int j] ∧ BdG d c pl nl kvs SZ ns H ∧ 1 ≤ j ∧ j ≤ SZ.length ∧ k < n ∧ k ≤ 3 ∧
  ∀ v t H', Ex d c H H' → Dr H' d c → Is H' v t → BdOk (AS SZ) ns t → dep t ≤ k + 2 → cnt t ≤ bsz k → Q v H'
theorem ok_law_graph_body {n : Nat} (T : Txt K mg) (G_law_draw : FnOk P w K mg base CX0 1 T.a_law_draw T.d_law_draw ["state", "many"] spDraw) (G_law_pick : FnOk P w K mg base CX0 2 T.a_law_pick T.d_law_pick ["state", "row"] (spPick K)) (G_law_graph_body : FnOk P w K mg base CX0 (n+2) T.a_law_graph_body T.d_law_graph_body ["state", "places", "names", "deep", "most"] (spBody n)) : FnOk P w K mg base CX0 (n+3) T.a_law_graph_body T.d_law_graph_body ["state", "places", "names", "deep", "most"] (spBody (n+1)) := by
  refine T.F_law_graph_body.ok sc_law_graph_body (fun vs H Q E h => ?_) (fun cdv A outer s H vs Q E hr h => ?_)
  · obtain ⟨d, c, pl, nl, kvs, SZ, ns, k, j, rfl, _⟩ := h; rfl
  · obtain ⟨d, c, pl, nl, kvs, SZ, ns, k, j, rfl, B, j1, jm, hk, k3, q⟩ := h
    have hr_law_draw := hr.mono (show 1 ≤ n + 2 by omega)
    have hr_law_pick := hr.mono (show 2 ≤ n + 2 by omega)
    have hr_law_graph_body := hr
    have hu := hu_of hr
    have l4 := B.len
    refine ⟨_, (pss_cons (ps_set (i := 5) sc_law_graph_body.nd rfl (Or.inl rfl) (pe_call G_law_draw hr_law_draw rfl T.m_law_draw T.F_law_draw.kp T.b_law_draw .nil pass0 (pa_cons (pv 0) (pa_cons pe_int pa_nil))))
    (pss_cons (ps_if (pt_cut (PW.pt (pw_or (pt_cmpR op_eq (pv 3) pe_int (nomark _)) (pw_or1 (pt_cmpR op_eq (pv 5) pe_int (nomark _)))))) (pss_cons (ps_if (pt_cmpR op_gt (pe_callB call_len_seq (by rfl) T.z_len (by decide +kernel) (pa_cons (pv 2) pa_nil)) pe_int (nomark _)) (pss_one (ps_ret (pe_call G_law_pick hr_law_pick rfl T.m_law_pick T.F_law_pick.kp T.b_law_pick .nil pass0 (pa_cons (pv 0) (pa_cons (pv 2) pa_nil))))) pss_nil)
    (pss_one (ps_ret (pe_tup (pa_cons pe_str pa_nil))))) pss_nil)
    (pss_cons (ps_if (pt_cmpR op_eq (pv 5) pe_int (nomark _)) (pss_one (ps_ret (pe_tup (pa_cons pe_str (pa_cons (pe_call G_law_graph_body hr_law_graph_body rfl T.m_law_graph_body T.F_law_graph_body.kp T.b_law_graph_body .nil pass0 (pa_cons (pv 0) (pa_cons (pv 1) (pa_cons (pv 2) (pa_cons (pe_op op_sub (pv 3) pe_int) (pa_cons (pv 4) pa_nil)))))) pa_nil))))) pss_nil)
    (pss_cons (ps_set (i := 6) sc_law_graph_body.nd rfl (Or.inl rfl) (pe_op op_add_str pe_str (pe_callTy call_str_int (by rfl) T.z_str (by decide +kernel) (pa_cons (pe_call G_law_draw hr_law_draw rfl T.m_law_draw T.F_law_draw.kp T.b_law_draw .nil pass0 (pa_cons (pv 0) (pa_cons (pv 4) pa_nil))) pa_nil))))
    (pss_cons (ps_set (i := 7) sc_law_graph_body.nd rfl (Or.inl rfl) (pe_lst pa_nil))
    (pss_cons (ps_for PassesOwn.never rfl (pi_range1 (by rfl) T.z_range (pa_cons (pe_ix ix_tup (pe_dget hu (pv 1) (pv 6) (fun _ _ => rfl)) pe_int (fun _ _ => rfl)) pa_nil)) (pg_name (i := 8) sc_law_graph_body.nd rfl (Or.inl rfl))
    (pss_one (ps_if (pt_cut (PW.pt (pw_and (pt_cmpR op_eq (pv 8) (pe_ix ix_tup (pe_dget hu (pv 1) (pv 6) (fun _ _ => rfl)) pe_int (fun _ _ => rfl)) (nomark _)) (pw_and (pt_cmpR op_gt (pe_callB call_len_seq (by rfl) T.z_len (by decide +kernel) (pa_cons (pv 2) pa_nil)) pe_int (nomark _)) (pw_and1 (pt_cmpR op_gt (pe_call G_law_draw hr_law_draw rfl T.m_law_draw T.F_law_draw.kp T.b_law_draw .nil pass0 (pa_cons (pv 0) (pa_cons pe_int pa_nil))) pe_int (nomark _))))))) (pss_one (ps_expr (pe_bm PySem.F.plainAttrs_list PySem.F.slot_list_append PySem.F.type_list_append mt_append (pv 7) (pa_cons (pe_call G_law_pick hr_law_pick rfl T.m_law_pick T.F_law_pick.kp T.b_law_pick .nil pass0 (pa_cons (pv 0) (pa_cons (pv 2) pa_nil))) pa_nil)))) (pss_one (ps_expr (pe_bm PySem.F.plainAttrs_list PySem.F.slot_list_append PySem.F.type_list_append mt_append (pv 7) (pa_cons (pe_call G_law_graph_body hr_law_graph_body rfl T.m_law_graph_body T.F_law_graph_body.kp T.b_law_graph_body .nil pass0 (pa_cons (pv 0) (pa_cons (pv 1) (pa_cons (pv 2) (pa_cons (pe_op op_sub (pv 3) pe_int) (pa_cons (pv 4) pa_nil)))))) pa_nil)))))))
    (pss_one (ps_ret (pe_op op_catT (pe_tup (pa_cons (pv 6) pa_nil)) (pe_callTy call_tuple_of (by rfl) T.z_tuple (by decide +kernel) (pa_cons (pv 7) pa_nil))))))))))), ?_⟩
    refine ⟨_, rfl, d, c, 4, rfl, B.dr, by decide, by decide, fun kd H1 kd0 kd4 x1 D1 => ?_⟩
    have B1 := B.ex x1 D1
    have b2 := bsz_two k
    refine ⟨fun b H2 => H2 = H1 ∧ (b = false → 1 ≤ k), ?_, ?_⟩
    · refine ⟨_, rfl, rfl, _, rfl, ite2 (fun c1 => ⟨rfl, fun z => by cases z⟩) (fun c1 => ⟨_, rfl, rfl, _, rfl, rfl, fun _ => ?_⟩)⟩
      have : ¬ ((k : Int) = 0) := fun e => c1 (by rw [e]; exact decide_eq_true rfl)
      omega
    rintro b H2 ⟨rfl, hb⟩
    cases b with
    | true =>
      refine iteT ?_
      refine ⟨_, rfl, nl, _, rfl, .inl (SqL.of B1.en), _, _, rfl, rfl, _, rfl, ite2 (fun c1 => ?_) (fun c1 => ?_)⟩
      · have n1 : 1 ≤ ns.length := by
          cases ns with
          | nil => simp at c1
          | cons _ _ => simp
        have n10 := B1.n1
        refine ⟨_, rfl, _, rfl, d, c, nl, _, rfl, B1.dr, .inl B1.en, B1.nn.1, B1.nn.2, by rw [List.length_map]; exact n1, by rw [List.length_map]; omega, fun x H3 hx x3 D3 => ?_⟩
        obtain ⟨z, hz, rfl⟩ := List.mem_map.mp hx
        exact q _ (.str z) H3 (x1.trans x3) D3 (.str z (B1.ok z hz)) hz (by simp [dep]) (by simp only [cnt]; omega)
      · refine ⟨(by show 1 ≤ sizeLine; decide), fun p hp => ?_⟩
        have s := same_upd hp (.tup [.str "K0"])
        exact q _ (.tup [.str "K0"]) _ (x1.trans (.of s)) (B1.dr.same s) (.tup upd_same (.cons (.str _ (by decide +kernel)) .nil)) ⟨as_ka (p := ("K0", 0)) (by decide +kernel), trivial⟩ (by simp [dep, depL]) (by simp only [cnt, cntL]; omega)
    | false =>
    refine iteF ?_
    obtain ⟨k, rfl⟩ : ∃ m, k = m + 1 := ⟨k - 1, by have := hb rfl; omega⟩
    have b2 := bsz_two k
    have eb : bsz (k + 1) = 2 + 2 * bsz k := rfl
    have ek : ((k + 1 : Nat) : Int) - 1 = (k : Int) := by omega
    refine ⟨_, rfl, rfl, _, rfl, ite2 (fun c1 => ?_) (fun c1 => ?_)⟩
    · refine ⟨_, rfl, _, rfl, _, rfl, _, rfl, _, _, rfl, rfl, _, rfl, d, c, pl, nl, kvs, SZ, ns, k, j, (by show [V.ref d, V.ref pl, V.ref nl, V.int (((k + 1 : Nat) : Int) - 1), V.int (j : Int)] = _; rw [ek]), B1, j1, jm, by omega, by omega, fun v t H4 x4 D4 i4 tm4 dp4 ct4 => ⟨(by show 2 ≤ sizeLine; decide), fun p hp => ?_⟩⟩
      have s5 := same_upd hp (.tup [.str "K1", v])
      refine q _ (.tup [.str "K1", t]) _ ((x1.trans x4).trans (.of s5)) (D4.same s5) (.tup upd_same (.cons (.str _ (by decide +kernel)) (.cons (i4.same s5) .nil))) ⟨as_ka (p := ("K1", 1)) (by decide +kernel), tm4, trivial⟩ ?_ ?_
      · rw [dep_cons]; simp only [depL]; omega
      · rw [cnt_cons]; simp only [cntL]; omega
    refine ⟨_, rfl, _, rfl, d, c, (j : Int), rfl, B1.dr, by omega, by omega, fun r H3 r0 r4 x3 D3 => ?_⟩
    obtain ⟨g, hg, rfl⟩ : ∃ g : Nat, g < SZ.length ∧ r = (g : Int) := ⟨r.toNat, by omega, by omega⟩
    have B3 := B1.ex x3 D3
    have g12 : g < 12 := by omega
    refine ⟨_, rfl, num_log _ g12, _, _, rfl, rfl, num_len _ g12, ?_⟩
    have fold : (("f" : Str) ++ (toString ((g : Nat) : Int) : Str)) = fw g := rfl
    rw [fold]
    refine ⟨(by show 0 ≤ sizeLine; decide), fun D hD => ?_⟩
    have s4 := same_upd hD (.lst [])
    have B4 := B3.same s4
    obtain ⟨q1, at_, ev, eq1⟩ := B4.pw g hg
    obtain ⟨sz1, sz2⟩ := B4.sz g hg
    have hin : (fw g, SZ.getD g 0) ∈ AS SZ := as_fn hg
    generalize hsz : SZ.getD g 0 = sz at *
    have nD := B3.dr.free hD
    refine ⟨_, rfl, _, rfl, pl, _, rfl, ev ▸ DGet.k (k := Sum.inr (fw g)) B4.ep, q1, _, _, _, rfl, rfl, .inl (.inl eq1), atI_nat (j := 0) rfl, (sz : Int), rfl, by omega, by omega, ?_⟩
    have okw := fw_ok g g12
    refine for_range (n := sz) (fun i σ H5 => ∃ (y8 : Option V) (vs : List V) (ts : List PV), σ = [some (.ref d), some (.ref pl), some (.ref nl), some (.int ((k + 1 : Nat) : Int)), some (.int (j : Int)), some (.int kd), some (.str (fw g)), some (.ref D), y8] ∧ Ex d c H3 H5 ∧ BdG d c pl nl kvs SZ ns H5 ∧ H5 q1 = some (.tup [.int sz, .int at_]) ∧ H5 D = some (.lst vs) ∧ IsL H5 vs ts ∧ (∀ t ∈ ts, BdOk (AS SZ) ns t ∧ dep t ≤ k + 2 ∧ cnt t ≤ bsz k) ∧ ts.length = i) ?_ ?_ ?_
    · exact ⟨none, [], [], rfl, .of s4, B4, eq1, upd_same, .nil, fun t h => (by cases h), rfl⟩
    · rintro i σ H5 hi ⟨y8, vs, ts, rfl, x5, B5, eq5, eD, iL, good, ln⟩
      have lv' := iL.len
      have more : ∀ (x : V) (t : PV) (H6 : Hp), Ex d c H5 H6 → Dr H6 d c → Is H6 x t → BdOk (AS SZ) ns t → dep t ≤ k + 2 → cnt t ≤ bsz k → ∀ {y : Option V} {R : L2.St → Hp → Prop}, (∀ σ' H', (∃ (y8 : Option V) (vs : List V) (ts : List PV), σ' = [some (.ref d), some (.ref pl), some (.ref nl), some (.int ((k + 1 : Nat) : Int)), some (.int (j : Int)), some (.int kd), some (.str (fw g)), some (.ref D), y8] ∧ Ex d c H3 H' ∧ BdG d c pl nl kvs SZ ns H' ∧ H' q1 = some (.tup [.int sz, .int at_]) ∧ H' D = some (.lst vs) ∧ IsL H' vs ts ∧ (∀ t ∈ ts, BdOk (AS SZ) ns t ∧ dep t ≤ k + 2 ∧ cnt t ≤ bsz k) ∧ ts.length = i + 1) → R σ' H') →
          ∃ l xs y', V.ref D = .ref l ∧ [x] = [y'] ∧ H6 l = some (.lst xs) ∧ xs.length < sizeLine ∧ R [some (.ref d), some (.ref pl), some (.ref nl), some (.int ((k + 1 : Nat) : Int)), some (.int (j : Int)), some (.int kd), some (.str (fw g)), some (.ref D), y] (upd H6 l (.lst (xs ++ [y']))) := by
        intro x t H6 x6 D6 i6 g1 g2 g3 y R fin
        have B6 := B5.ex x6 D6
        have eD6 : H6 D = some (.lst vs) := x6.but _ _ nD.1 nD.2 eD
        refine ⟨D, vs, x, rfl, rfl, eD6, small1000 (by omega), fin _ _ ⟨y, vs ++ [x], ts ++ [t], rfl, (x5.trans x6).own hD _, B6.own B3 hD, Tk.wr ⟨_, eD6⟩ _ _ (x6.tk B5.dr _ _ eq5), upd_same, IsL.tk (Tk.wr ⟨_, eD6⟩) ((IsL.ex x6 B5.dr iL).append (.cons i6 .nil)), fun t' ht => ?_, by rw [List.length_append, ln]; rfl⟩⟩
        rcases List.mem_append.mp ht with h | h
        · exact good t' h
        · rw [List.mem_singleton.mp h]; exact ⟨g1, g2, g3⟩
      refine ⟨fun b H6 => Ex d c H5 H6 ∧ Dr H6 d c ∧ (b = true → 1 ≤ ns.length), ?_, ?_⟩
      · refine ⟨_, rfl, _, rfl, _, rfl, pl, _, rfl, ev ▸ DGet.k (k := Sum.inr (fw g)) B5.ep, q1, _, _, _, rfl, rfl, .inl (.inl eq5), atI_nat (j := 1) rfl, rfl, _, rfl, ite2 (fun c1 => ?_) (fun c1 => ⟨.refl _ _ _, B5.dr, fun z => by cases z⟩)⟩
        refine ⟨_, rfl, nl, _, rfl, .inl (SqL.of B5.en), _, _, rfl, rfl, _, rfl, ite2 (fun c2 => ?_) (fun c2 => ⟨.refl _ _ _, B5.dr, fun z => by cases z⟩)⟩
        have n1 : 1 ≤ ns.length := by
          cases ns with
          | nil => simp at c2
          | cons _ _ => simp
        exact ⟨_, rfl, d, c, 8, rfl, B5.dr, by decide, by decide, fun r H6 r0 r8 x6 D6 => ⟨_, _, rfl, rfl, _, rfl, x6, D6, fun _ => n1⟩⟩
      · rintro b H6 ⟨x6, D6, hb⟩
        have B6 := B5.ex x6 D6
        cases b with
        | true =>
          have n1 := hb rfl
          have n10 := B6.n1
          refine iteT ⟨_, rfl, .inl ⟨rfl, _, SqL.of (x6.but _ _ nD.1 nD.2 eD)⟩, _, rfl, _, rfl, d, c, nl, _, rfl, D6, .inl B6.en, B6.nn.1, B6.nn.2, by rw [List.length_map]; exact n1, by rw [List.length_map]; omega, fun x H7 hx x7 D7 => ?_⟩
          obtain ⟨z, hz, rfl⟩ := List.mem_map.mp hx
          exact more _ (.str z) H7 (x6.trans x7) D7 (.str z (B6.ok z hz)) hz (by simp [dep]) (by simp only [cnt]; omega) fun _ _ h => h
        | false =>
          refine iteF ⟨_, rfl, .inl ⟨rfl, _, SqL.of (x6.but _ _ nD.1 nD.2 eD)⟩, _, rfl, _, rfl, _, rfl, _, rfl, _, _, rfl, rfl, _, rfl, d, c, pl, nl, kvs, SZ, ns, k, j, (by show [V.ref d, V.ref pl, V.ref nl, V.int (((k + 1 : Nat) : Int) - 1), V.int (j : Int)] = _; rw [ek]), B6, j1, jm, by omega, by omega, fun v t H7 x7 D7 i7 tm7 dp7 ct7 => ?_⟩
          exact more v t H7 (x6.trans x7) D7 i7 tm7 dp7 ct7 fun _ _ h => h
    · rintro σ H5 ⟨y8, vs, ts, rfl, x5, B5, eq5, eD, iL, good, ln⟩
      have lv' := iL.len
      refine ⟨_, rfl, (by show 1 ≤ sizeLine; decide), fun p hp => ?_⟩
      have s6 := same_upd hp (.tup [.str (fw g)])
      refine ⟨_, rfl, D, vs, rfl, .inl ⟨SqL.of (s6 _ _ eD), fun l hl => ?_⟩⟩
      have s7 := same_upd hl (.tup vs)
      refine go_catT (s7 _ _ upd_same) upd_same (.cons (.str _ okw) .nil) (iL.same (s6.trans s7)) (by simp) (by simp only [List.length_cons, List.length_nil]; omega) fun u H8 s8 i8 => ?_
      have sx := (s6.trans s7).trans s8
      refine q u (.tup (.str (fw g) :: ts)) H8 (((x1.trans x3).trans x5).trans (.of sx)) (B5.dr.same sx) i8 ⟨by rw [ln]; exact hin, BdOkL_mem fun t ht => (good t ht).1⟩ ?_ ?_
      · have := depL_le fun t ht => (good t ht).2.1
        rw [dep_cons]; omega
      · have h1 := cntL_le fun t ht => (good t ht).2.2
        have h2 : ts.length * bsz k ≤ 2 * bsz k := Nat.mul_le_mul_right _ (by omega)
        rw [cnt_cons]; omega
end
end Kx
namespace Kx
open PySem PySem.Spec PyProof.Rows L2
section
variable {P : Program} {w : World} {K : PySem.W.Frag} {mg : Str → Option Value} {base : Heap}
/-- all but the list at d stands; it is a list still -/
structure El (d : Addr) (H H' : Hp) : Prop where
  but : ∀ b o, b ≠ d → H b = some o → H' b = some o
  lst : (∃ xs, H d = some (.lst xs)) → ∃ xs, H' d = some (.lst xs)
theorem El.refl (d : Addr) (H : Hp) : El d H H := ⟨fun _ _ _ h => h, fun h => h⟩
theorem El.trans {d : Addr} {H H1 H2 : Hp} (a : El d H H1) (b : El d H1 H2) : El d H H2 := ⟨fun c o n h => b.but c o n (a.but c o n h), fun h => b.lst (a.lst h)⟩
theorem El.of {d : Addr} {H H' : Hp} (s : Same H H') : El d H H' := ⟨fun b o _ h => s b o h, fun ⟨xs, h⟩ => ⟨xs, s _ _ h⟩⟩
theorem El.set {d : Addr} {H : Hp} (xs : List V) : El d H (upd H d (.lst xs)) := ⟨fun b o n h => by rw [upd_ne n]; exact h, fun _ => ⟨xs, upd_same⟩⟩
theorem El.tk {d : Addr} {H H' : Hp} (x : El d H H') (e : ∃ xs, H d = some (.lst xs)) : Tk H H' := fun a vs h => x.but a _ (fun q => by
  subst q
  obtain ⟨xs, e⟩ := e
  rw [e] at h
  cases h) h
theorem Is.el {d : Addr} {H H' : Hp} (x : El d H H') (e : ∃ xs, H d = some (.lst xs)) {v : V} {t : PV} (i : Is H v t) : Is H' v t := i.tk (x.tk e)
theorem IsL.el {d : Addr} {H H' : Hp} (x : El d H H') (e : ∃ xs, H d = some (.lst xs)) {v : List V} {t : List PV} (i : IsL H v t) : IsL H' v t := i.tk (x.tk e)
theorem tm_inv : ∀ {ts : List PV}, Tm (.tup ts) → ∃ w r, ts = .str w :: r ∧ TmL r
  | .str w :: r, h => ⟨w, r, rfl, h⟩
theorem cntL_take (l : List PV) (n : Nat) : cntL (l.take n) ≤ cntL l := by
  have := congrArg cntL (List.take_append_drop n l)
  rw [cntL_append] at this
  omega
theorem cut_from (xs : List V) {k : Nat} (h : k ≤ xs.length) : cutV xs (some (k : Int)) none = xs.drop k := by
  unfold cutV
  rw [HT.sIx_nat, HT.sIx_none, Nat.min_eq_left h, List.take_of_length_le (by rw [List.length_drop]; exact Nat.le_refl _)]
theorem cut_to (xs : List V) {k : Nat} (h : k ≤ xs.length) : cutV xs none (some (k : Int)) = xs.take k := by
  unfold cutV
  rw [HT.sIx_nat, HT.sIx_none, Nat.min_eq_left h]
  rfl
theorem slice1 {x : V} {vs : List V} : ¬ (HT.sIx (x :: vs).length 0 (some (1 : Int)) = 0 ∧ HT.sIx (x :: vs).length (x :: vs).length none = (x :: vs).length) := by
  intro e
  have h := e.1
  rw [show (1 : Int) = ((1 : Nat) : Int) from rfl, HT.sIx_nat, List.length_cons] at h
  omega
theorem cut1 {x : V} {vs : List V} : cutV (x :: vs) (some (1 : Int)) none = vs := cut_from (k := 1) (x :: vs) (by rw [List.length_cons]; omega)
def spNames (n : Nat) : Sp := fun vs H Q _ => ∃ v t, vs = [v] ∧ Is H v t ∧ Tm t ∧ cnt t ≤ n ∧ cnt t ≤ 100 ∧ ∀ a H', Same H H' → H' a = some (.lst ((nms t).map V.str)) → Q (.ref a) H'
theorem tm_tup_inv {H : Hp} {v : V} {t : PV} (hI : Is H v t) (hT : Tm t) (c : isStr t = false) : ∃ a w vs ts, v = .ref a ∧ t = .tup (.str w :: ts) ∧ H a = some (.tup (.str w :: vs)) ∧ IsL H vs ts ∧ TmL ts := by
  cases t with
  | str z => cases c
  | int i => exact absurd hT (by simp [Tm])
  | tup l =>
    obtain ⟨a, vs, rfl, ea, hL⟩ := hI.tup_inv
    obtain ⟨w, ts, rfl, h⟩ := tm_inv hT
    cases hL with
    | cons h0 hL =>
      cases h0.str_inv
      exact ⟨a, w, _, ts, rfl, rfl, ea, hL, h⟩
theorem inV_str (z : Str) : ∀ f : List Str, inV (.str z) (f.map V.str) = decide (z ∈ f)
  | [] => rfl
  | x :: r => by
    have ih := inV_str z r
    show ((x == z) || inV (.str z) (r.map V.str)) = _
    rw [ih]
    by_cases h : x = z
    · subst h; simp
    · have h2 : ¬ z = x := fun e => h e.symm
      simp [h, h2]
theorem flat_str : ∀ f : List Str, (f.map V.str).all flatV = true
  | [] => rfl
  | _ :: r => flat_str r
theorem ok_names_of {n : Nat} (T : Txt K mg)  : FnOk P w K mg base CX0 1 T.a_names_of T.d_names_of ["term"] (spNames n) := by
  refine T.F_names_of.ok sc_names_of (fun vs H Q E h => ?_) (fun cdv A outer s H vs Q E hr h => ?_)
  · obtain ⟨v, t, rfl, _⟩ := h; rfl
  · obtain ⟨v, t, rfl, hI, hT, hn, h100, q⟩ := h
    refine ⟨_, (pss_cons (ps_set (i := 1) sc_names_of.nd rfl (Or.inl rfl) (pe_lst pa_nil))
    (pss_cons (ps_set (i := 2) sc_names_of.nd rfl (Or.inl rfl) (pe_lst (pa_cons (pv 0) pa_nil)))
    (pss_cons (ps_while PassesOwn.never (pt_truth (pv 2) (by intro _; rfl))
    (pss_cons (ps_set (i := 3) sc_names_of.nd rfl (Or.inl rfl) (pe_bm0 PySem.F.plainAttrs_list PySem.F.slot_list_pop PySem.F.type_list_pop mt_pop (pv 2)))
    (pss_one (ps_if (pt_val (pe_callB call_isi (by rfl) T.z_isinstance (by decide +kernel) (pa_cons (pv 3) (pa_cons (pe_bltn rfl T.z_tuple (by decide +kernel) (show RelV (V.ty "tuple") (Value.type "tuple") from rfl)) pa_nil)))) (pss_one (ps_expr (pe_bm PySem.F.plainAttrs_list PySem.F.slot_list_extend PySem.F.type_list_extend mt_extT (pv 2) (pa_cons (pe_cutback (pv 3)) pa_nil)))) (pss_one (ps_if (pt_cmpR op_notIn_seq (pv 3) (pv 1) (by rfl)) (pss_one (ps_expr (pe_bm PySem.F.plainAttrs_list PySem.F.slot_list_append PySem.F.type_list_append mt_append (pv 1) (pa_cons (pv 3) pa_nil)))) pss_nil))))))
    (pss_one (ps_ret (pv 1)))))), ?_⟩
    refine ⟨(by show 0 ≤ sizeLine; decide), fun fa hf => ?_⟩
    refine ⟨_, rfl, (by show 1 ≤ sizeLine; decide), fun ta ht => ?_⟩
    have s1 := same_upd hf (.lst [])
    have s2 := same_upd ht (.lst [v])
    have ft : H ta = none := s1.free ht
    have nft : fa ≠ ta := ne_of_none upd_same ht
    refine ⟨fun m σ H2 => ∃ y3 vs ts f, σ = [some v, some (.ref fa), some (.ref ta), y3] ∧ Same H H2 ∧ H2 fa = some (.lst (f.map V.str)) ∧ H2 ta = some (.lst vs) ∧ IsL H2 vs ts ∧ (∀ x ∈ ts, Tm x) ∧ cntL ts = m ∧ f.length + cntL ts ≤ 100 ∧ dd f (lvL ts.reverse) = nms t, ⟨cnt t, ?_⟩, ?_⟩
    · refine ⟨none, [v], [t], [], rfl, s1.trans s2, ?_, upd_same, .cons ((hI.same s1).same s2) .nil, fun x hx => by rw [List.mem_singleton.mp hx]; exact hT, by simp [cntL], ?_, ?_⟩
      · rw [upd_ne nft, upd_same]; rfl
      · simp [cntL]; exact h100
      · simp [lvL, nms]
    · intro m σ H2 ⟨y3, vs, ts, f, es, sm, ef, et, hL, hTs, hm, hb, hd⟩
      subst es
      refine ⟨_, rfl, _, .inl ⟨_, SqL.of et, rfl⟩, ?_⟩
      refine ite2 (fun cv => ?_) (fun cv => ?_)
      case refine_2 =>
        have hv : vs = [] := by cases vs with | nil => rfl | cons _ _ => exact absurd rfl cv
        subst hv
        cases hL
        have e : f = nms t := hd
        rw [e] at ef
        exact ⟨_, rfl, q fa H2 sm ef⟩
      have hne : vs ≠ [] := by intro e; rw [e] at cv; cases cv
      have hlast : vs[vs.length - 1]? = some (vs.getLast hne) := by
        rw [List.getLast_eq_getElem, List.getElem?_eq_getElem]
      obtain ⟨ts', y, ets, hy, hL'⟩ := hL.snoc_inv hlast hne
      have hlen := hL'.len
      have cts : cntL ts = cntL ts' + cnt y := by rw [ets, cntL_append]; simp [cntL]
      have cy := cnt_pos y
      refine ⟨fun σ' H' => ∃ m', m' < m ∧ ∃ y3 vs ts f, σ' = [some v, some (.ref fa), some (.ref ta), y3] ∧ Same H H' ∧ H' fa = some (.lst (f.map V.str)) ∧ H' ta = some (.lst vs) ∧ IsL H' vs ts ∧ (∀ x ∈ ts, Tm x) ∧ cntL ts = m' ∧ f.length + cntL ts ≤ 100 ∧ dd f (lvL ts.reverse) = nms t, fun σ' H' z => z, ?_⟩
      refine ⟨_, rfl, .inl ⟨rfl, _, SqL.of et⟩, ta, vs, _, rfl, rfl, et, hlast, ?_⟩
      have x3 : El ta H2 (upd H2 ta (.lst vs.dropLast)) := .set _
      have sm3 : Same H (upd H2 ta (.lst vs.dropLast)) := Kx.Same.own sm ft _
      have hy3 := hy.el x3 ⟨_, et⟩
      have hL3 := hL'.el x3 ⟨_, et⟩
      have ef3 : (upd H2 ta (.lst vs.dropLast)) fa = some (.lst (f.map V.str)) := by rw [upd_ne nft]; exact ef
      have yT : Tm y := hTs y (by rw [ets]; simp)
      have hTs' : ∀ x ∈ ts', Tm x := fun x hx => hTs x (by rw [ets]; exact List.mem_append_left _ hx)
      obtain ⟨u, ty, kt⟩ := hy3.ty (K := K)
      have lrev : lvL ts.reverse = lv y ++ lvL ts'.reverse := by rw [ets, List.reverse_append]; rfl
      refine ⟨_, rfl, _, _, u, _, _, rfl, .ty _, ty, kit_tup kt, _, rfl, ite2 (fun c => ?_) (fun c => ?_)⟩
      · obtain ⟨a, w, vs2, r, ev, rfl, ea, hL2, hr2⟩ := tm_tup_inv hy3 yT (by cases y with | str z => cases c | int i => rfl | tup l => rfl)
        rw [ev]
        refine ⟨_, rfl, .inl ⟨rfl, _, SqL.of upd_same⟩, _, rfl, a, _, rfl, .inl (.inl ea), by simp, fun p o hp od os => ?_⟩
        have s4 := same_upd hp (.frz o (.tup ((V.str w :: vs2).drop 1).reverse))
        rw [cnt_cons] at cts cy
        have hlen2 := hL2.len
        have cl := cntL_len r
        have cl2 := cntL_len ts'
        refine ⟨ta, p, _, _, rfl, rfl, s4 _ _ upd_same, ⟨o, upd_same, od, os⟩, ?_, ?_⟩
        · rw [List.length_reverse, List.drop_one, List.tail_cons, hlen, hlen2]
          exact Nat.le_of_lt (small1000 (by omega))
        · have x5 : El ta (upd H2 ta (.lst vs.dropLast)) (upd (upd (upd H2 ta (.lst vs.dropLast)) p (.frz o (.tup ((V.str w :: vs2).drop 1).reverse))) ta (.lst (vs.dropLast ++ ((V.str w :: vs2).drop 1).reverse))) := (El.of s4).trans (.set _)
          refine ⟨cntL (ts' ++ r.reverse), ?_, _, _, ts' ++ r.reverse, f, rfl, Kx.Same.own (sm3.trans s4) ft _, ?_, upd_same, (hL3.append hL2.reverse).el x5 ⟨_, upd_same⟩, ?_, rfl, ?_, ?_⟩
          · rw [cntL_append, cntL_reverse]; omega
          · rw [upd_ne nft]; exact s4 _ _ ef3
          · intro x hx
            rcases List.mem_append.mp hx with h | h
            · exact hTs' x h
            · exact mem_TmL hr2 x (List.mem_reverse.mp h)
          · rw [cntL_append, cntL_reverse]; omega
          · rw [← hd, lrev, List.reverse_append, List.reverse_reverse, lvL_append]
            rfl
      · cases y with
        | int i => exact absurd yT (by simp [Tm])
        | tup l => exact absurd rfl c
        | str z =>
        rw [hy.str_inv]
        refine ⟨_, rfl, _, rfl, fa, _, rfl, .inl (SqL.of ef3), rfl, flat_str f, _, rfl, ?_⟩
        rw [inV_str]
        have e1 : dd f (lvL ts.reverse) = dd (add1 f z) (lvL ts'.reverse) := by rw [lrev]; rfl
        have c1 : cnt (.str z) = 1 := by simp [cnt]
        refine ite2 (fun c2 => ?_) (fun c2 => ?_)
        · have nz : z ∉ f := by simpa using c2
          have ea1 : add1 f z = f ++ [z] := by simp [add1, nz]
          refine ⟨_, rfl, .inl ⟨rfl, _, SqL.of ef3⟩, _, rfl, fa, _, _, rfl, rfl, ef3, ?_, ?_⟩
          · rw [List.length_map]; exact small1000 (by omega)
          · have x6 : El fa (upd H2 ta (.lst vs.dropLast)) (upd (upd H2 ta (.lst vs.dropLast)) fa (.lst (f.map V.str ++ [.str z]))) := .set _
            refine ⟨cntL ts', by omega, _, _, ts', f ++ [z], rfl, Kx.Same.own sm3 hf _, ?_, ?_, hL3.el x6 ⟨_, ef3⟩, hTs', rfl, ?_, ?_⟩
            · rw [upd_same, List.map_append]; rfl
            · rw [upd_ne nft.symm, upd_same]
            · rw [List.length_append, List.length_singleton]; omega
            · rw [← hd, e1, ea1]
        · have nz : z ∈ f := by simpa using c2
          have ea1 : add1 f z = f := by simp [add1, nz]
          refine ⟨cntL ts', by omega, _, _, ts', f, rfl, sm3, ef3, upd_same, hL3, hTs', rfl, by omega, ?_⟩
          rw [← hd, e1, ea1]
theorem ok_law_names {n : Nat} (T : Txt K mg) (G_law_names : FnOk P w K mg base CX0 (n+1) T.a_law_names T.d_law_names ["term"] (spNames n)) : FnOk P w K mg base CX0 (n+2) T.a_law_names T.d_law_names ["term"] (spNames (n+1)) := by
  refine T.F_law_names.ok sc_law_names (fun vs H Q E h => ?_) (fun cdv A outer s H vs Q E hr h => ?_)
  · obtain ⟨v, t, rfl, _⟩ := h; rfl
  · obtain ⟨v, t, rfl, hI, hT, hn, h100, q⟩ := h
    have hr_law_names := hr
    refine ⟨_, (pss_cons (ps_if (pt_val (pe_callB call_isi (by rfl) T.z_isinstance (by decide +kernel) (pa_cons (pv 0) (pa_cons (pe_bltn rfl T.z_str (by decide +kernel) (show RelV (V.ty "str") (Value.type "str") from rfl)) pa_nil)))) (pss_one (ps_ret (pe_lst (pa_cons (pv 0) pa_nil)))) pss_nil)
    (pss_cons (ps_set (i := 1) sc_law_names.nd rfl (Or.inr rfl) (pe_lst pa_nil))
    (pss_cons (ps_for PassesOwn.never rfl (pi_tup (pe_slice sl_tup (pv 0) (po_some pe_int) po_none)) (pg_name (i := 2) sc_law_names.nd rfl (Or.inl rfl))
    (pss_one (ps_set (i := 1) sc_law_names.nd rfl (Or.inr rfl) (pe_op op_cat (pv 1) (pe_lc (own := [("name", 3)]) (g := (gName 3)) rfl sc_law_names.nd (pi_list (pe_call G_law_names hr_law_names rfl T.m_law_names T.F_law_names.kp T.b_law_names .nil pass0 (pa_cons (pv 2) pa_nil))) (blkOk_by (own := [("name", 3)]) (N := ["term", "found", "part", "name"]) (sc := defScope s_law_names) (by decide +kernel)) (fun _ _ _ _ _ => (pg_name (i := 3) sc_law_names.nd rfl (Or.inl rfl))) (fun _ _ _ _ _ => pts_one (pt_cmpR (notInSeqK (K := K)) (pv 3) (pv 1) (by rfl))) (fun _ _ _ _ _ => (pv 3)))))))
    (pss_one (ps_ret (pv 1)))))), ?_⟩
    obtain ⟨u, ty, kt⟩ := hI.ty (K := K)
    refine ⟨_, rfl, _, _, u, _, _, rfl, .ty _, ty, kit_str kt, _, rfl, ite2 (fun c => ?_) (fun c => ?_)⟩
    · cases t with
      | int i => cases c
      | tup ts => cases c
      | str z =>
      cases hI.str_inv
      refine ⟨_, rfl, (by show 1 ≤ sizeLine; decide), fun p hp => ?_⟩
      exact q p _ (same_upd hp _) upd_same
    · obtain ⟨a, w, vs, ts, rfl, rfl, ea, hL, hTl⟩ := tm_tup_inv hI hT (Bool.eq_false_iff.mpr c)
      have hlen := hL.len
      rw [cnt_cons] at hn h100
      rw [nms_tup] at q
      refine ⟨(by show 0 ≤ sizeLine; decide), fun f0 hf0 => ?_⟩
      have s0 := same_upd hf0 (.lst [])
      refine ⟨_, rfl, _, rfl, a, _, rfl, .inl (.inl (s0 _ _ ea)), slice1, fun p1 h1 => ?_⟩
      rw [cut1]
      have s1 := same_upd h1 (.tup vs)
      have s01 := s0.trans s1
      refine ⟨p1, rfl, ⟨_, .inl (.inl upd_same)⟩, ?_⟩
      refine for_tup (K := K) (a := p1) (xs := vs) (fun i σ H2 => ∃ fa y2, σ = [some (.ref a), some (.ref fa), y2, none] ∧ Same (upd (upd H f0 (.lst [])) p1 (.tup vs)) H2 ∧ H2 fa = some (.lst ((nmsL [] (ts.take i)).map V.str))) ?_ ?_ ?_ ?_
      · exact ⟨f0, none, rfl, .refl _, by rw [upd_ne (ne_of_none upd_same h1), upd_same]; rfl⟩
      · exact fun i σ H2 _ ⟨_, _, _, sm, _⟩ => .inl (.inl (sm _ _ upd_same))
      · intro i x σ H2 hx ⟨fa, y2, es, sm, ef⟩
        subst es
        obtain ⟨y, ey, hy⟩ := hL.get hx
        have hm := List.mem_of_getElem? ey
        obtain ⟨hi, ey2⟩ := List.getElem?_eq_some_iff.mp ey
        have cy := cntL_mem hm
        have s02 := s01.trans sm
        have yl := nms_len y
        have fl : (nmsL [] (ts.take i)).length ≤ cntL ts := by
          have a1 := dd_len (lvL (ts.take i)) []
          have a2 := lvL_len (ts.take i)
          have a3 := cntL_take ts i
          rw [← nmsL_eq, List.length_nil] at a1
          omega
        refine ⟨_, rfl, _, rfl, x, y, rfl, hy.same s02, mem_TmL hTl y hm, by omega, by omega, fun p H3 s3 ep => ⟨p, rfl, ⟨_, SqL.of ep⟩, fun D hD => ?_⟩⟩
        have ef3 := s3 _ _ ef
        refine lc_list (K := K) (a := p) (xs := (nms y).map V.str) (fun j H4 => Same H3 H4 ∧ H4 D = some (.lst ((((nms y).take j).filter fun z => decide (z ∉ nmsL [] (ts.take i))).map V.str))) ?_ ?_ ?_ ?_
        · exact ⟨same_upd hD _, upd_same⟩
        · exact fun j H4 _ ⟨s4, _⟩ => SqL.of (s4 _ _ ep)
        · intro j x' H4 hx' ⟨s4, eD⟩
          rw [List.getElem?_map] at hx'
          cases hz : (nms y)[j]? with
          | none => rw [hz] at hx'; cases hx'
          | some z =>
          rw [hz] at hx'
          cases (Option.some.inj hx')
          obtain ⟨hj, ez⟩ := List.getElem?_eq_some_iff.mp hz
          have tk : (nms y).take (j + 1) = (nms y).take j ++ [z] := by rw [List.take_succ_eq_append_getElem hj, ez]
          refine ⟨rfl, _, rfl, _, rfl, fa, _, rfl, .inl (SqL.of (s4 _ _ ef3)), rfl, flat_str _, _, rfl, ?_⟩
          rw [inV_str]
          refine ite2 (fun c2 => ?_) (fun c2 => ?_)
          · have nz : z ∉ nmsL [] (ts.take i) := by simpa using c2
            refine ⟨_, rfl, _, eD, ?_, Kx.Same.own s4 hD _, ?_⟩
            · have l1 := List.length_filter_le (fun z => decide (z ∉ nmsL [] (ts.take i))) ((nms y).take j)
              rw [List.length_take] at l1
              rw [List.length_map]
              exact small1000 (by omega)
            · rw [upd_same, tk, List.filter_append, List.map_append]
              simp [nz]
          · have nz : z ∈ nmsL [] (ts.take i) := by simpa using c2
            refine ⟨s4, ?_⟩
            rw [eD, tk, List.filter_append]
            simp [nz]
        · intro H4 ⟨s4, eD⟩
          rw [List.length_map, List.take_length] at eD
          refine ⟨fa, D, _, _, rfl, rfl, s4 _ _ ef3, eD, ?_, fun p2 hp2 => ?_⟩
          · have l1 := List.length_filter_le (fun z => decide (z ∉ nmsL [] (ts.take i))) (nms y)
            rw [List.length_map, List.length_map]
            exact Nat.le_of_lt (small1000 (by omega))
          · have s5 := same_upd hp2 (.lst ((nmsL [] (ts.take i)).map V.str ++ (((nms y).filter fun z => decide (z ∉ nmsL [] (ts.take i))).map V.str)))
            refine ⟨p2, some x, rfl, sm.trans (s3.trans (s4.trans s5)), ?_⟩
            rw [upd_same, List.take_succ_eq_append_getElem hi, ey2]
            have e : nmsL [] (ts.take i ++ [y]) = addN (nmsL [] (ts.take i)) (nms y) := by simp [nmsL]
            rw [e, addN, List.map_append]
      · intro σ H2 ⟨fa, y2, es, sm, ef⟩
        subst es
        rw [hlen, List.take_length] at ef
        exact ⟨_, rfl, q fa H2 (s01.trans sm) ef⟩
def spNamesIn (n : Nat) : Sp := fun vs H Q _ => ∃ v t, vs = [v] ∧ Is H v t ∧ Tm t ∧ cnt t ≤ n ∧ cnt t ≤ 100 ∧ ∀ a H', Same H H' → H' a = some (.tup ((nms t).map V.str)) → Q (.ref a) H'
theorem ok_names_in {n : Nat} (T : Txt K mg) (G_names_of : FnOk P w K mg base CX0 1 T.a_names_of T.d_names_of ["term"] (spNames n)) : FnOk P w K mg base CX0 2 T.a_names_in T.d_names_in ["pattern"] (spNamesIn n) := by
  refine T.F_names_in.ok sc_names_in (fun vs H Q E h => ?_) (fun cdv A outer s H vs Q E hr h => ?_)
  · obtain ⟨v, t, rfl, _⟩ := h; rfl
  · obtain ⟨v, t, rfl, hI, hT, hn, h100, q⟩ := h
    have hr_names_of := hr
    refine ⟨_, (pss_one (ps_ret (pe_callTy call_tuple_of (by rfl) T.z_tuple (by decide +kernel) (pa_cons (pe_call G_names_of hr_names_of rfl T.m_names_of T.F_names_of.kp T.b_names_of .nil pass0 (pa_cons (pv 0) pa_nil)) pa_nil)))), ?_⟩
    refine ⟨_, rfl, v, t, rfl, hI, hT, hn, h100, fun a H1 s1 e => ⟨a, _, rfl, .inl ⟨SqL.of e, fun l hl => ?_⟩⟩⟩
    exact q l _ (s1.trans (same_upd hl _)) upd_same
end
end Kx
namespace Kx
open PySem PySem.Spec PyProof.Rows L2
section
variable {P : Program} {w : World} {K : PySem.W.Frag} {mg : Str → Option Value} {base : Heap}
set_option pp.maxSteps 600
theorem dd_sub {z : Str} : ∀ {ys f : List Str}, z ∈ dd f ys → z ∈ f ∨ z ∈ ys
  | [], f, h => .inl h
  | y :: r, f, h => by
    rcases dd_sub (ys := r) (f := add1 f y) h with h | h
    · unfold add1 at h
      split at h
      · exact .inl h
      · rcases List.mem_append.mp h with h | h
        · exact .inl h
        · exact .inr (List.mem_cons.mpr (.inl (List.mem_singleton.mp h)))
    · exact .inr (List.mem_cons_of_mem _ h)
theorem nms_sub {z : Str} {t : PV} (h : z ∈ nms t) : z ∈ lv t := (dd_sub h).resolve_left (by simp)
mutual
theorem Is.nm {H : Hp} : ∀ {v : V} {t : PV}, Is H v t → ∀ z ∈ lv t, sok z = true
  | _, _, .str y k, z, h => by
    simp only [lv, List.mem_singleton] at h
    rw [h]; exact k
  | _, _, .int _, z, h => by simp [lv] at h
  | _, .tup [], .tup _ _, z, h => by simp [lv] at h
  | _, .tup (_ :: _), .tup _ (.cons _ r), z, h => by
    simp only [lv] at h
    exact IsL.nm r z h
theorem IsL.nm {H : Hp} : ∀ {v : List V} {t : List PV}, IsL H v t → ∀ z ∈ lvL t, sok z = true
  | _, _, .nil, z, h => by simp [lvL] at h
  | _, _, .cons a r, z, h => by
    simp only [lvL, List.mem_append] at h
    rcases h with h | h
    · exact Is.nm a z h
    · exact IsL.nm r z h
end
theorem Ex.free {d c l : Addr} {H H' : Hp} (x : Ex d c H H') (h : Dr H' d c) (e : H' l = none) : H l = none := by
  obtain ⟨n1, n2⟩ := h.free e
  cases q : H l with
  | none => rfl
  | some o => have := x.but l o n1 n2 q; rw [e] at this; cases this
theorem mk_names {i j : Nat} (h : i < 2) (g : j < 2) (n : i ≠ j) {z : Str} (a : z ∈ marks ((["x", "y"] : List Str).getD i "")) (b : z ∈ marks ((["x", "y"] : List Str).getD j "")) : False := by
  have k1 : ∀ z ∈ marks "x", z ∉ marks "y" := by decide +kernel
  have k2 : ∀ z ∈ marks "y", z ∉ marks "x" := by decide +kernel
  have c : (i = 0 ∧ j = 1) ∨ (i = 1 ∧ j = 0) := by omega
  rcases c with ⟨rfl, rfl⟩ | ⟨rfl, rfl⟩
  · exact k1 z a b
  · exact k2 z a b
theorem lvL_snoc (l : List PV) (t : PV) : lvL (l ++ [t]) = lvL l ++ lv t := by rw [lvL_append]; simp [lvL]
theorem getD_l {α : Type} {l : List α} {a d : α} {j : Nat} (h : j < l.length) : (l ++ [a]).getD j d = l.getD j d := by simp [List.getD, List.getElem?_append_left h]
theorem getD_e {α : Type} {l : List α} {a d : α} : (l ++ [a]).getD l.length d = a := by simp [List.getD]
mutual
theorem BdOk.mono {ar ar' : List (Str × Nat)} {ns ns' : List Str} (ha : ∀ p ∈ ar, p ∈ ar') (hn : ∀ z ∈ ns, z ∈ ns') : ∀ {t : PV}, BdOk ar ns t → BdOk ar' ns' t
  | .str _, h => hn _ h
  | .int _, h => h.elim
  | .tup [], h => h.elim
  | .tup (.int _ :: _), h => h.elim
  | .tup (.tup _ :: _), h => h.elim
  | .tup (.str w :: r), h => ⟨ha _ h.1, BdOkL.mono ha hn h.2⟩
theorem BdOkL.mono {ar ar' : List (Str × Nat)} {ns ns' : List Str} (ha : ∀ p ∈ ar, p ∈ ar') (hn : ∀ z ∈ ns, z ∈ ns') : ∀ {l : List PV}, BdOkL ar ns l → BdOkL ar' ns' l
  | [], _ => trivial
  | t :: r, h => ⟨h.1.mono ha hn, BdOkL.mono ha hn h.2⟩
end
theorem lvL_in {z : Str} : ∀ {l : List PV} {t : PV}, t ∈ l → z ∈ lv t → z ∈ lvL l
  | a :: r, t, h, hz => by
    simp only [lvL, List.mem_append]
    rcases List.mem_cons.mp h with rfl | h
    · exact .inl hz
    · exact .inr (lvL_in h hz)
/-- a clause over functions with so many params -/
def ClX (SZ : List Nat) (sz : Nat) (c : Cl) : Prop := ClG sz c ∧ (∀ z ∈ lvL c.ps, z ∈ NM) ∧ BdOk (AS SZ) (lvL c.ps) c.body
structure FnX (SZ : List Nat) (f : Fn) : Prop where
  np : 1 ≤ f.np ∧ f.np ≤ 2
  few : f.cls.length ≤ 2
  cl : ∀ c ∈ f.cls, ClX SZ f.np c
  at_ : 0 ≤ f.at_ ∧ f.at_ < (f.np : Int)
def heads (SZ : List Nat) (i : Nat) : List (Str × Nat) := (List.range i).map fun j => (fw j, SZ.getD j 0)
theorem pg_of {SZ : List Nat} {fs : List Fn} (l1 : 1 ≤ SZ.length) (l4 : SZ.length ≤ 4) (e : (fs.map fun f => (f.w, f.np)) = heads SZ SZ.length) (h : ∀ f ∈ fs, FnX SZ f) : PgG fs := by
  have ew : fs.map Fn.w = (List.range SZ.length).map fw := by
    have := congrArg (List.map (·.1)) e
    rw [heads, List.map_map, List.map_map] at this
    exact this
  have len : fs.length = SZ.length := by
    have := congrArg List.length ew
    rwa [List.length_map, List.length_map, List.length_range] at this
  refine ⟨⟨?_, ⟨by omega, by omega⟩, fun f hf => ⟨(h f hf).np, (h f hf).few, fun c hc => ((h f hf).cl c hc).1⟩⟩, fun f hf => ?_, fun f hf => (h f hf).at_, fun f hf c hc => ((h f hf).cl c hc).2.1, fun f hf c hc => ?_⟩
  · rw [ew]
    refine List.pairwise_map.mpr ((List.nodup_range (n := SZ.length)).imp_of_mem fun {a b} ha hb n q => n ?_)
    have a4 := List.mem_range.mp ha
    have b4 := List.mem_range.mp hb
    exact fw_inj a (by omega) b (by omega) q
  · have : f.w ∈ fs.map Fn.w := List.mem_map_of_mem hf
    rw [ew] at this
    obtain ⟨i, hi, e⟩ := List.mem_map.mp this
    have := List.mem_range.mp hi
    exact ⟨i, by omega, e.symm⟩
  · have : AR fs = AS SZ := by rw [AR, e]; rfl
    rw [this]
    exact ((h f hf).cl c hc).2.2
/-- where the places stand -/
structure Gp (d c pl : Addr) (SZ : List Nat) (AT : List Int) (kvs : List (Key × V)) (H : Hp) : Prop where
  dr : Dr H d c
  ep : H pl = some (.dK kvs)
  few : kvs.length ≤ 4
  pw : ∀ i, i < SZ.length → ∃ q : Addr, valV kvs (Sum.inr (fw i)) = some (.ref q) ∧ H q = some (.tup [.int ((SZ.getD i 0 : Nat) : Int), .int (AT.getD i 0)])
  sz : ∀ i, i < SZ.length → 1 ≤ SZ.getD i 0 ∧ SZ.getD i 0 ≤ 2 ∧ 0 ≤ AT.getD i 0 ∧ AT.getD i 0 < ((SZ.getD i 0 : Nat) : Int)
  len : SZ.length ≤ 4 ∧ AT.length = SZ.length
section
variable {d c pl : Addr} {SZ : List Nat} {AT : List Int} {kvs : List (Key × V)} {H H' : Hp}
theorem Gp.ex (x : Ex d c H H') (D : Dr H' d c) (G : Gp d c pl SZ AT kvs H) : Gp d c pl SZ AT kvs H' :=
  ⟨D, x.keep G.dr G.ep (fun _ z => by cases z), G.few, fun w hw => (by
    obtain ⟨q, e1, e2⟩ := G.pw w hw
    exact ⟨q, e1, x.tk G.dr _ _ e2⟩), G.sz, G.len⟩
theorem Gp.same (s : Same H H') (G : Gp d c pl SZ AT kvs H) : Gp d c pl SZ AT kvs H' := G.ex (.of s) (G.dr.same s)
theorem Gp.own {l : Addr} {H0 : Hp} {o : HO} (G : Gp d c pl SZ AT kvs H) (G0 : Gp d c pl SZ AT kvs H0) (n : H0 l = none) : Gp d c pl SZ AT kvs (upd H l o) := by
  have f := fun {b : Addr} {o : HO} (e : H0 b = some o) => (ne_of_none e n : b ≠ l)
  obtain ⟨f1, f2⟩ := G0.dr.free n
  refine ⟨G.dr.own f1 f2, by rw [upd_ne (f G0.ep)]; exact G.ep, G.few, fun w hw => ?_, G.sz, G.len⟩
  obtain ⟨q, e1, e2⟩ := G.pw w hw
  obtain ⟨q', e1', e2'⟩ := G0.pw w hw
  have : q = q' := by rw [e1] at e1'; cases e1'; rfl
  subst this
  exact ⟨q, e1, by rw [upd_ne (f e2')]; exact e2⟩
end
def spGraph : Sp := fun vs H Q _ => ∃ d c, vs = [.ref d] ∧ Dr H d c ∧ ∀ v fs H', Ex d c H H' → Dr H' d c → Is H' v (progPV fs) → PgG fs → Q v H'
theorem ok_law_graph_program (T : Txt K mg) (G_law_draw : FnOk P w K mg base CX0 1 T.a_law_draw T.d_law_draw ["state", "many"] spDraw) (G_law_graph_pattern : FnOk P w K mg base CX0 2 T.a_law_graph_pattern T.d_law_graph_pattern ["state", "mark"] spPat) (G_law_names : FnOk P w K mg base CX0 13 T.a_law_names T.d_law_names ["term"] (spNames 12)) (G_law_graph_body : FnOk P w K mg base CX0 7 T.a_law_graph_body T.d_law_graph_body ["state", "places", "names", "deep", "most"] (spBody 4)) : FnOk P w K mg base CX0 15 T.a_law_graph_program T.d_law_graph_program ["state"] spGraph := by
  refine T.F_law_graph_program.ok sc_law_graph_program (fun vs H Q E h => ?_) (fun cdv A outer s H vs Q E hr h => ?_)
  · obtain ⟨d, c, rfl, _⟩ := h; rfl
  · obtain ⟨d, c, rfl, hD, q⟩ := h
    have hr_law_draw := hr.mono (show 1 ≤ 14 by omega)
    have hr_law_graph_pattern := hr.mono (show 2 ≤ 14 by omega)
    have hr_law_names := hr.mono (show 13 ≤ 14 by omega)
    have hr_law_graph_body := hr.mono (show 7 ≤ 14 by omega)
    have hu := hu_of hr
    refine ⟨_, (pss_cons (ps_set (i := 1) sc_law_graph_program.nd rfl (Or.inl rfl) (pe_op op_add pe_int (pe_call G_law_draw hr_law_draw rfl T.m_law_draw T.F_law_draw.kp T.b_law_draw .nil pass0 (pa_cons (pv 0) (pa_cons pe_int pa_nil)))))
    (pss_cons (ps_set (i := 2) sc_law_graph_program.nd rfl (Or.inl rfl) pe_dnewK)
    (Evl.pss_cut (ps_for PassesOwn.never rfl (pi_range1 (by rfl) T.z_range (pa_cons (pv 1) pa_nil)) (pg_name (i := 3) sc_law_graph_program.nd rfl (Or.inl rfl))
    (pss_cons (ps_set (i := 4) sc_law_graph_program.nd rfl (Or.inl rfl) (pe_op op_add pe_int (pe_call G_law_draw hr_law_draw rfl T.m_law_draw T.F_law_draw.kp T.b_law_draw .nil pass0 (pa_cons (pv 0) (pa_cons pe_int pa_nil)))))
    (pss_one (ps_dput hu (pv 2) (pe_op op_add_str pe_str (pe_callTy call_str_int (by rfl) T.z_str (by decide +kernel) (pa_cons (pv 3) pa_nil))) (pe_tup (pa_cons (pv 4) (pa_cons (pe_call G_law_draw hr_law_draw rfl T.m_law_draw T.F_law_draw.kp T.b_law_draw .nil pass0 (pa_cons (pv 0) (pa_cons (pv 4) pa_nil))) pa_nil))) rfl))))
    (pss_cons (ps_set (i := 5) sc_law_graph_program.nd rfl (Or.inl rfl) (pe_lst pa_nil))
    (Evl.pss_cut (ps_for PassesOwn.never rfl (pi_range1 (by rfl) T.z_range (pa_cons (pv 1) pa_nil)) (pg_name (i := 3) sc_law_graph_program.nd rfl (Or.inl rfl))
    (pss_cons (ps_asg (pe_dget hu (pv 2) (pe_op op_add_str pe_str (pe_callTy call_str_int (by rfl) T.z_str (by decide +kernel) (pa_cons (pv 3) pa_nil))) (fun _ _ => rfl)) (pg_tup rfl (pgs_cons (pg_name (i := 4) sc_law_graph_program.nd rfl (Or.inl rfl)) (pgs_cons (pg_name (i := 6) sc_law_graph_program.nd rfl (Or.inl rfl)) pgs_nil))))
    (pss_cons (ps_set (i := 7) sc_law_graph_program.nd rfl (Or.inl rfl) (pe_lst pa_nil))
    (Evl.pss_cut (ps_for PassesOwn.never rfl (pi_range1 (by rfl) T.z_range (pa_cons (pe_call G_law_draw hr_law_draw rfl T.m_law_draw T.F_law_draw.kp T.b_law_draw .nil pass0 (pa_cons (pv 0) (pa_cons pe_int pa_nil))) pa_nil)) (pg_name (i := 8) sc_law_graph_program.nd rfl (Or.inl rfl))
    (Evl.pss_cut (ps_set (i := 9) sc_law_graph_program.nd rfl (Or.inl rfl) (pe_callTy call_tuple_of (by rfl) T.z_tuple (by decide +kernel) (pa_cons (pe_lc (own := [("j", 14)]) (g := (gName 14)) (tt := tYes) rfl sc_law_graph_program.nd (pi_range1 (by rfl) T.z_range (pa_cons (pv 4) pa_nil)) (blkOk_by (own := [("j", 14)]) (N := ["state", "many", "places", "k", "size", "functions", "place", "clauses", "turn", "patterns", "names", "pattern", "most", "params", "j"]) (sc := defScope s_law_graph_program) (by decide +kernel)) (fun _ _ _ _ _ => (pg_name (i := 14) sc_law_graph_program.nd rfl (Or.inl rfl))) (fun _ _ _ _ _ => pts_nil) (fun _ _ _ _ _ => (pe_call G_law_graph_pattern hr_law_graph_pattern rfl T.m_law_graph_pattern T.F_law_graph_pattern.kp T.b_law_graph_pattern .nil pass0 (pa_cons (pv 0) (pa_cons (pe_ix (ixLK (K := K)) (pe_lst (pa_cons pe_str (pa_cons pe_str pa_nil))) (pv 14) (fun _ _ => rfl)) pa_nil))))) pa_nil)))
    (pss_cons (ps_set (i := 10) sc_law_graph_program.nd rfl (Or.inl rfl) (pe_lst pa_nil))
    (Evl.pss_cut (ps_for PassesOwn.never rfl (pi_tup (pv 9)) (pg_name (i := 11) sc_law_graph_program.nd rfl (Or.inl rfl))
    (pss_one (ps_set (i := 10) sc_law_graph_program.nd rfl (Or.inl rfl) (pe_op op_cat (pv 10) (pe_call G_law_names hr_law_names rfl T.m_law_names T.F_law_names.kp T.b_law_names .nil pass0 (pa_cons (pv 11) pa_nil))))))
    (Evl.pss_cut (ps_set (i := 12) sc_law_graph_program.nd rfl (Or.inl rfl) (pe_ix ix_list (pe_lst (pa_cons (pv 1) (pa_cons (pe_op op_add (pv 3) pe_int) pa_nil))) (pe_call G_law_draw hr_law_draw rfl T.m_law_draw T.F_law_draw.kp T.b_law_draw .nil pass0 (pa_cons (pv 0) (pa_cons pe_int pa_nil))) (fun _ _ => rfl)))
    (pss_one (ps_expr (pe_bm PySem.F.plainAttrs_list PySem.F.slot_list_append PySem.F.type_list_append mt_append (pv 7) (pa_cons (pe_tup (pa_cons (pv 9) (pa_cons (pe_call G_law_graph_body hr_law_graph_body rfl T.m_law_graph_body T.F_law_graph_body.kp T.b_law_graph_body .nil pass0 (pa_cons (pv 0) (pa_cons (pv 2) (pa_cons (pv 10) (pa_cons (pe_op op_add pe_int (pe_call G_law_draw hr_law_draw rfl T.m_law_draw T.F_law_draw.kp T.b_law_draw .nil pass0 (pa_cons (pv 0) (pa_cons pe_int pa_nil)))) (pa_cons (pv 12) pa_nil)))))) pa_nil))) pa_nil)))))))))
    (Evl.pss_cut (ps_set (i := 13) sc_law_graph_program.nd rfl (Or.inl rfl) (pe_callTy call_tuple_of (by rfl) T.z_tuple (by decide +kernel) (pa_cons (pe_lc (own := [("j", 14)]) (g := (gName 14)) (tt := tYes) rfl sc_law_graph_program.nd (pi_range1 (by rfl) T.z_range (pa_cons (pv 4) pa_nil)) (blkOk_by (own := [("j", 14)]) (N := ["state", "many", "places", "k", "size", "functions", "place", "clauses", "turn", "patterns", "names", "pattern", "most", "params", "j"]) (sc := defScope s_law_graph_program) (by decide +kernel)) (fun _ _ _ _ _ => (pg_name (i := 14) sc_law_graph_program.nd rfl (Or.inl rfl))) (fun _ _ _ _ _ => pts_nil) (fun _ _ _ _ _ => (pe_tup (pa_cons pe_str (pa_cons pe_str pa_nil))))) pa_nil)))
    (pss_one (ps_expr (pe_bm PySem.F.plainAttrs_list PySem.F.slot_list_append PySem.F.type_list_append mt_append (pv 5) (pa_cons (pe_tup (pa_cons (pe_op op_add_str pe_str (pe_callTy call_str_int (by rfl) T.z_str (by decide +kernel) (pa_cons (pv 3) pa_nil))) (pa_cons (pv 13) (pa_cons pe_str (pa_cons pe_str (pa_cons (pv 6) (pa_cons (pe_callTy call_tuple_of (by rfl) T.z_tuple (by decide +kernel) (pa_cons (pv 7) pa_nil)) pa_nil))))))) pa_nil)))))))))
    (pss_one (ps_ret (pe_tup (pa_cons pe_str (pa_cons (pe_callTy call_tuple_of (by rfl) T.z_tuple (by decide +kernel) (pa_cons (pv 5) pa_nil)) pa_nil)))))))))), ?_⟩
    refine ⟨_, rfl, d, c, 4, rfl, hD, by decide, by decide, fun r0 H1 r00 r04 x1 D1 => ⟨_, _, rfl, rfl, ?_⟩⟩
    obtain ⟨m, hm, rfl⟩ : ∃ m : Nat, m < 4 ∧ r0 = (m : Int) := ⟨r0.toNat, by omega, by omega⟩
    have em : (1 : Int) + (m : Int) = ((m + 1 : Nat) : Int) := by omega
    show gName 1 (V.int (1 + (m : Int))) _ _ _
    rw [em]
    refine fun pl hpl => ?_
    have s3 := same_upd hpl (.dK [])
    have npl := D1.free hpl
    refine ⟨fun σ H3 => ∃ (y3 y4 : Option V) (kvs : List (Key × V)) (SZ : List Nat) (AT : List Int), σ = [some (.ref d), some (.int ((m + 1 : Nat) : Int)), some (.ref pl), y3, y4, none, none, none, none, none, none, none, none, none, none] ∧ Ex d c H1 H3 ∧ Gp d c pl SZ AT kvs H3 ∧ SZ.length = m + 1, ?_, ?_⟩
    · refine ⟨_, rfl, ((m + 1 : Nat) : Int), rfl, by omega, by omega, ?_⟩
      refine for_range (n := m + 1) (fun i σ H3 => i ≤ m + 1 ∧ ∃ (y3 y4 : Option V) (kvs : List (Key × V)) (SZ : List Nat) (AT : List Int), σ = [some (.ref d), some (.int ((m + 1 : Nat) : Int)), some (.ref pl), y3, y4, none, none, none, none, none, none, none, none, none, none] ∧ Ex d c H1 H3 ∧ Gp d c pl SZ AT kvs H3 ∧ SZ.length = i ∧ kvs.length ≤ i) ?_ ?_ ?_
      · exact ⟨Nat.zero_le _, none, none, [], [], [], rfl, .of s3, ⟨D1.same s3, upd_same, Nat.zero_le _, fun w h => (by cases h), fun w h => (by cases h), ⟨Nat.zero_le _, rfl⟩⟩, rfl, Nat.le_refl 0⟩
      · rintro i σ H3 hi ⟨_, y3, y4, kvs, SZ, AT, rfl, x3, G3, lz, kl⟩
        have i12 : i < 12 := by omega
        rw [Int.zero_add]
        refine ⟨_, rfl, d, c, 2, rfl, G3.dr, by decide, by decide, fun r H4 r0 r2 x4 D4 => ⟨_, _, rfl, rfl, ?_⟩⟩
        obtain ⟨sz, hsz, rfl⟩ : ∃ sz : Nat, sz < 2 ∧ r = (sz : Int) := ⟨r.toNat, by omega, by omega⟩
        have es : (1 : Int) + (sz : Int) = ((sz + 1 : Nat) : Int) := by omega
        show gName 4 (V.int (1 + (sz : Int))) _ _ _
        rw [es]
        refine ⟨_, rfl, _, rfl, _, rfl, d, c, ((sz + 1 : Nat) : Int), rfl, D4, by omega, by omega, fun r' H5 r0' r2' x5 D5 => ⟨(by show 2 ≤ sizeLine; decide), fun q hq => ?_⟩⟩
        have G5 := (G3.ex x4 D4).ex x5 D5
        have s6 := same_upd hq (.tup [.int ((sz + 1 : Nat) : Int), .int r'])
        have G6 := G5.same s6
        have nq : q ≠ pl := ne_of (show (upd H5 q (.tup [.int ((sz + 1 : Nat) : Int), .int r'])) q = _ from upd_same) G6.ep (fun z => nomatch z)
        have fpl : H1 pl = none := hpl
        have la := G3.len.2
        refine ⟨_, rfl, _, rfl, _, rfl, num_log _ i12, _, _, rfl, rfl, num_len _ i12, pl, _, rfl, DPut.k (k := Sum.inr (fw i)) G6.ep (small1000 (by omega)), by omega, _, _, _, SZ ++ [sz + 1], AT ++ [r'], rfl, (((x3.trans x4).trans x5).trans (.of s6)).own fpl _, ⟨G6.dr.own npl.1 npl.2, upd_same, ?_, fun w hw => ?_, fun w hw => ?_, ⟨by rw [List.length_append]; show SZ.length + 1 ≤ 4; omega, by rw [List.length_append, List.length_append, la]; rfl⟩⟩, by rw [List.length_append, lz]; rfl, ?_⟩
        · have := length_putK kvs (Sum.inr (fw i)) (V.ref q); omega
        · rw [List.length_append] at hw
          have hw' : w < SZ.length + 1 := hw
          by_cases e : w = SZ.length
          · subst e
            have e2 : (AT ++ [r']).getD SZ.length 0 = r' := by rw [← la, getD_e]
            rw [getD_e, e2]
            exact ⟨q, by rw [lz, valV_put, if_pos rfl], by rw [upd_ne nq, upd_same]⟩
          · have hl : w < SZ.length := by omega
            obtain ⟨q2, e1, e2⟩ := G6.pw w hl
            have nq2 : q2 ≠ pl := ne_of e2 G6.ep (fun z => nomatch z)
            rw [getD_l hl, getD_l (by omega)]
            exact ⟨q2, by rw [valV_put, if_neg (fun h => e (by have := fw_inj w (by omega) i i12 (Sum.inr.inj h); omega))]; exact e1, by rw [upd_ne nq2]; exact e2⟩
        · rw [List.length_append] at hw
          have hw' : w < SZ.length + 1 := hw
          by_cases e : w = SZ.length
          · subst e
            have e2 : (AT ++ [r']).getD SZ.length 0 = r' := by rw [← la, getD_e]
            rw [getD_e, e2]
            exact ⟨by omega, by omega, r0', r2'⟩
          · have hl : w < SZ.length := by omega
            rw [getD_l hl, getD_l (by omega)]
            exact G6.sz w hl
        · have := length_putK kvs (Sum.inr (fw i)) (V.ref q); omega
      · rintro σ H3 ⟨_, y3, y4, kvs, SZ, AT, rfl, x3, G3, lz, kl⟩
        exact ⟨y3, y4, kvs, SZ, AT, rfl, x3, G3, lz⟩
    rintro σ H3 ⟨y3, y4, kvs, SZ, AT, rfl, x3, G3, lz⟩
    have l4 := G3.len.1
    refine ⟨(by show 0 ≤ sizeLine; decide), fun fl hfl => ?_⟩
    have s4 := same_upd hfl (.lst [])
    have G4 := G3.same s4
    refine ⟨fun σ H5 => ∃ (y3 y4 y6 y7 y8 y9 y10 y11 y12 y13 : Option V) (vs : List V) (fs : List Fn), σ = [some (.ref d), some (.int ((m + 1 : Nat) : Int)), some (.ref pl), y3, y4, some (.ref fl), y6, y7, y8, y9, y10, y11, y12, y13, none] ∧ Ex d c H3 H5 ∧ Gp d c pl SZ AT kvs H5 ∧ H5 fl = some (.lst vs) ∧ IsL H5 vs (fs.map fnPV) ∧ (fs.map fun f => (f.w, f.np)) = heads SZ (m + 1) ∧ ∀ f ∈ fs, FnX SZ f, ?_, ?_⟩
    · refine ⟨_, rfl, ((m + 1 : Nat) : Int), rfl, by omega, by omega, ?_⟩
      refine for_range (n := m + 1) (fun i σ H5 => i ≤ m + 1 ∧ ∃ (y3 y4 y6 y7 y8 y9 y10 y11 y12 y13 : Option V) (vs : List V) (fs : List Fn), σ = [some (.ref d), some (.int ((m + 1 : Nat) : Int)), some (.ref pl), y3, y4, some (.ref fl), y6, y7, y8, y9, y10, y11, y12, y13, none] ∧ Ex d c H3 H5 ∧ Gp d c pl SZ AT kvs H5 ∧ H5 fl = some (.lst vs) ∧ IsL H5 vs (fs.map fnPV) ∧ (fs.map fun f => (f.w, f.np)) = heads SZ i ∧ ∀ f ∈ fs, FnX SZ f) ?_ ?_ ?_
      · exact ⟨Nat.zero_le _, _, _, none, none, none, none, none, none, none, none, [], [], rfl, .of s4, G4, upd_same, .nil, rfl, fun f h => by cases h⟩
      · rintro i σ H5 hi ⟨_, y3, y4, y6, y7, y8, y9, y10, y11, y12, y13, vs, fs, rfl, x5, G5, efl, iF, ew5, fg⟩
        have i12 : i < 12 := by omega
        rw [Int.zero_add]
        obtain ⟨q, eval, eq⟩ := G5.pw i (by omega)
        obtain ⟨sz1, sz2, at1, at2⟩ := G5.sz i (by omega)
        have ehead : (fw i, SZ.getD i 0) = (fw i, SZ.getD i 0) := rfl
        generalize hsz : SZ.getD i 0 = sz at *
        generalize AT.getD i 0 = at_ at *
        refine ⟨_, rfl, _, rfl, _, rfl, num_log _ i12, _, _, rfl, rfl, num_len _ i12, pl, _, rfl, (show DGet H5 pl (V.str (fw i)) (some (V.ref q)) from eval ▸ DGet.k (k := Sum.inr (fw i)) G5.ep), q, _, rfl, .inl (.inl eq), rfl, _, _, rfl, _, _, rfl, rfl, ?_⟩
        refine ⟨(by show 0 ≤ sizeLine; decide), fun cl hcl => ?_⟩
        have s6 := same_upd hcl (.lst [])
        have nfc : fl ≠ cl := ne_of_none efl hcl
        have nfl := G3.dr.free hfl
        have ncl := G5.dr.free hcl
        refine ⟨fun σ H6 => ∃ (y8 y9 y10 y11 y12 : Option V) (us : List V) (cs : List Cl), σ = [some (.ref d), some (.int ((m + 1 : Nat) : Int)), some (.ref pl), some (.int (i : Int)), some (.int (sz : Nat)), some (.ref fl), some (.int at_), some (.ref cl), y8, y9, y10, y11, y12, y13, none] ∧ Ex d c H5 H6 ∧ Gp d c pl SZ AT kvs H6 ∧ H6 fl = some (.lst vs) ∧ H6 cl = some (.lst us) ∧ IsL H6 us (cs.map clPV) ∧ (∀ x ∈ cs, ClX SZ sz x) ∧ cs.length ≤ 2, ?_, ?_⟩
        · refine ⟨_, rfl, d, c, 3, rfl, (G5.same s6).dr, by decide, by decide, fun r H6 r0 r3 x6 D6 => ?_⟩
          obtain ⟨tn, htn, rfl⟩ : ∃ tn : Nat, tn < 3 ∧ r = (tn : Int) := ⟨r.toNat, by omega, by omega⟩
          have G6 := (G5.same s6).ex x6 D6
          refine ⟨(tn : Int), rfl, by omega, by omega, ?_⟩
          refine for_range (n := tn) (fun t σ H7 => t ≤ tn ∧ ∃ (y8 y9 y10 y11 y12 : Option V) (us : List V) (cs : List Cl), σ = [some (.ref d), some (.int ((m + 1 : Nat) : Int)), some (.ref pl), some (.int (i : Int)), some (.int (sz : Nat)), some (.ref fl), some (.int at_), some (.ref cl), y8, y9, y10, y11, y12, y13, none] ∧ Ex d c H5 H7 ∧ Gp d c pl SZ AT kvs H7 ∧ H7 fl = some (.lst vs) ∧ H7 cl = some (.lst us) ∧ IsL H7 us (cs.map clPV) ∧ (∀ x ∈ cs, ClX SZ sz x) ∧ cs.length = t) ?_ ?_ ?_
          · exact ⟨Nat.zero_le _, _, _, _, _, _, [], [], rfl, (Ex.of s6).trans x6, G6, x6.but _ _ nfl.1 nfl.2 (s6 _ _ efl), x6.but _ _ ncl.1 ncl.2 upd_same, .nil, (fun x h => by cases h), rfl⟩
          · rintro t σ H7 ht ⟨_, y8, y9, y10, y11, y12, us, cs, rfl, x7, G7, ef7, ec7, iC, cg, lc⟩
            have luc := iC.len
            rw [List.length_map] at luc
            refine ⟨fun σ H8 => ∃ (pa : Addr) (pvs : List V) (ps : List PV), σ = [some (.ref d), some (.int ((m + 1 : Nat) : Int)), some (.ref pl), some (.int (i : Int)), some (.int (sz : Nat)), some (.ref fl), some (.int at_), some (.ref cl), some (.int (0 + (t : Int))), some (.ref pa), y10, y11, y12, y13, none] ∧ Ex d c H7 H8 ∧ Dr H8 d c ∧ H8 pa = some (.tup pvs) ∧ IsL H8 pvs ps ∧ ps.length = sz ∧ (∀ p ∈ ps, PatG p) ∧ (lvL ps).Nodup ∧ ∀ z ∈ lvL ps, z ∈ NM, ?_, ?_⟩
            · refine ⟨_, rfl, (sz : Int), rfl, by omega, by omega, fun D hD => ?_⟩
              have nD := G7.dr.free hD
              have s8 := same_upd hD (.lst [])
              refine lc_range (n := sz) (fun j H8 => j ≤ sz ∧ ∃ (pvs : List V) (ps : List PV), H8 D = some (.lst pvs) ∧ IsL H8 pvs ps ∧ ps.length = j ∧ Ex d c H7 H8 ∧ Dr H8 d c ∧ (∀ p ∈ ps, PatG p) ∧ (lvL ps).Nodup ∧ (∀ z ∈ lvL ps, z ∈ NM) ∧ ∀ z ∈ lvL ps, ∃ e, e < j ∧ z ∈ marks ((["x", "y"] : List Str).getD e "")) ?_ ?_ ?_
              · exact ⟨Nat.zero_le _, [], [], upd_same, .nil, rfl, .of s8, G7.dr.same s8, (fun p h => by cases h), List.nodup_nil, (fun z h => by simp [lvL] at h), fun z h => by simp [lvL] at h⟩
              · rintro j H8 hj ⟨_, pvs, ps, eD, iP, lp, x8, D8, pg, nd, nm, mk⟩
                have lpv := iP.len
                refine ⟨rfl, yes_if ⟨_, rfl, (by show 2 ≤ sizeLine; decide), fun L hL => ?_⟩⟩
                have s9 := same_upd hL (.lst [.str "x", .str "y"])
                have j2 : j < 2 := by omega
                obtain ⟨mm, hmm, em, am⟩ : ∃ mm : Str, (mm = "x" ∨ mm = "y") ∧ mm = (["x", "y"] : List Str).getD j "" ∧ [V.str "x", V.str "y"][0 + j]? = some (.str mm) := by
                  have : j = 0 ∨ j = 1 := by omega
                  rcases this with rfl | rfl
                  · exact ⟨"x", .inl rfl, rfl, rfl⟩
                  · exact ⟨"y", .inr rfl, rfl, rfl⟩
                refine ⟨_, rfl, L, _, _, _, rfl, rfl, SqL.of upd_same, atI_nat (j := 0 + j) am, ?_⟩
                refine ⟨d, c, mm, rfl, hmm, D8.same s9, fun v tt H9 x9 D9 i9 ⟨g1, g2, g3⟩ => ?_⟩
                have eD9 : H9 D = some (.lst pvs) := x9.but _ _ nD.1 nD.2 (s9 _ _ eD)
                refine ⟨pvs, eD9, small1000 (by omega), hj, pvs ++ [v], ps ++ [tt], upd_same, IsL.tk (Tk.wr ⟨_, eD9⟩) ((IsL.ex x9 (D8.same s9) (iP.same s9)).append (.cons i9 .nil)), by rw [List.length_append, lp]; rfl, ((x8.trans (.of s9)).trans x9).own hD _, D9.own nD.1 nD.2, fun p hp => ?_, ?_, fun z hz => ?_, fun z hz => ?_⟩
                · rcases List.mem_append.mp hp with h | h
                  · exact pg p h
                  · rw [List.mem_singleton.mp h]; exact g1
                · rw [lvL_snoc]
                  refine List.nodup_append.mpr ⟨nd, g2, fun a ha b hb e => ?_⟩
                  subst e
                  obtain ⟨e, he, ha2⟩ := mk a ha
                  have hb2 := g3 a hb
                  rw [em] at hb2
                  exact mk_names (i := e) (j := j) (by omega) j2 (by omega) ha2 hb2
                · rw [lvL_snoc] at hz
                  rcases List.mem_append.mp hz with h | h
                  · exact nm z h
                  · exact marks_nm hmm z (g3 z h)
                · rw [lvL_snoc] at hz
                  rcases List.mem_append.mp hz with h | h
                  · obtain ⟨e, he, h2⟩ := mk z h
                    exact ⟨e, by omega, h2⟩
                  · exact ⟨j, by omega, em ▸ g3 z h⟩
              · rintro H8 ⟨_, pvs, ps, eD, iP, lp, x8, D8, pg, nd, nm, mk⟩
                refine ⟨D, pvs, rfl, .inl ⟨SqL.of eD, fun l hl => ?_⟩⟩
                have s9 := same_upd hl (.tup pvs)
                exact ⟨l, pvs, ps, rfl, x8.trans (.of s9), D8.same s9, upd_same, iP.same s9, lp, pg, nd, nm⟩
            rintro σ H8 ⟨pa, pvs, ps, rfl, x8, D8, epa, iP, lp, pg, nd, nm⟩
            have lpv := iP.len
            refine ⟨(by show 0 ≤ sizeLine; decide), fun n0 hn0 => ?_⟩
            have s9 := same_upd hn0 (.lst [])
            refine ⟨fun σ H9 => ∃ (y11 : Option V) (na : Addr) (ns : List Str), σ = [some (.ref d), some (.int ((m + 1 : Nat) : Int)), some (.ref pl), some (.int (i : Int)), some (.int (sz : Nat)), some (.ref fl), some (.int at_), some (.ref cl), some (.int (0 + (t : Int))), some (.ref pa), some (.ref na), y11, y12, y13, none] ∧ Same H8 H9 ∧ H8 na = none ∧ H9 na = some (.lst (ns.map V.str)) ∧ ns.length ≤ 40 ∧ (∀ z ∈ ns, sok z = true) ∧ ∀ z ∈ ns, z ∈ lvL ps, ?_, ?_⟩
            · refine ⟨_, rfl, pa, rfl, ⟨_, .inl (.inl (s9 _ _ epa))⟩, ?_⟩
              refine for_tup (K := K) (a := pa) (xs := pvs) (fun j σ H9 => ∃ (y11 : Option V) (na : Addr) (ns : List Str), σ = [some (.ref d), some (.int ((m + 1 : Nat) : Int)), some (.ref pl), some (.int (i : Int)), some (.int (sz : Nat)), some (.ref fl), some (.int at_), some (.ref cl), some (.int (0 + (t : Int))), some (.ref pa), some (.ref na), y11, y12, y13, none] ∧ Same H8 H9 ∧ H8 na = none ∧ H9 na = some (.lst (ns.map V.str)) ∧ ns.length ≤ 10 * j ∧ (∀ z ∈ ns, sok z = true) ∧ ∀ z ∈ ns, z ∈ lvL ps) ?_ ?_ ?_ ?_
              · exact ⟨y11, n0, [], rfl, s9, hn0, upd_same, Nat.le_refl 0, (fun z h => by cases h), fun z h => by cases h⟩
              · exact fun j σ H9 _ ⟨_, _, _, _, sm, _⟩ => .inl (.inl (sm _ _ epa))
              · rintro j x σ H9 hx ⟨y11, na, ns, rfl, sm, hna, ena, ln, ok, inl⟩
                obtain ⟨p, ep, ip⟩ := iP.get hx
                have hp := List.mem_of_getElem? ep
                obtain ⟨g1, g2, g3⟩ := pg p hp
                have j2 := (List.getElem?_eq_some_iff.mp hx).1
                refine ⟨_, rfl, _, rfl, x, p, rfl, ip.same sm, ap_tm g1, by omega, by omega, fun b H10 s10 eb => ?_⟩
                have nl := nms_len p
                refine ⟨na, b, _, _, rfl, rfl, s10 _ _ ena, eb, Nat.le_of_lt (small1000 (by rw [List.length_map, List.length_map]; omega)), fun l hl => ?_⟩
                have s11 := same_upd hl (.lst (ns.map V.str ++ (nms p).map V.str))
                refine ⟨some x, l, ns ++ nms p, rfl, (sm.trans s10).trans s11, (sm.trans s10).free hl, by rw [upd_same, List.map_append], by rw [List.length_append]; omega, fun z hz => ?_, fun z hz => ?_⟩
                · rcases List.mem_append.mp hz with h | h
                  · exact ok z h
                  · exact ip.nm z (nms_sub h)
                · rcases List.mem_append.mp hz with h | h
                  · exact inl z h
                  · exact lvL_in hp (nms_sub h)
              · rintro σ H9 ⟨y11, na, ns, rfl, sm, hna, ena, ln, ok, inl⟩
                exact ⟨y11, na, ns, rfl, sm, hna, ena, by omega, ok, inl⟩
            rintro σ H9 ⟨y11, na, ns, rfl, sm9, hna, ena, lns, nok, inl⟩
            have G8 := G7.ex x8 D8
            have G9 := G8.same sm9
            have nna := G8.dr.free hna
            refine ⟨fun σ H10 => ∃ (j : Nat), σ = [some (.ref d), some (.int ((m + 1 : Nat) : Int)), some (.ref pl), some (.int (i : Int)), some (.int (sz : Nat)), some (.ref fl), some (.int at_), some (.ref cl), some (.int (0 + (t : Int))), some (.ref pa), some (.ref na), y11, some (.int (j : Int)), y13, none] ∧ Ex d c H9 H10 ∧ Dr H10 d c ∧ 1 ≤ j ∧ j ≤ m + 1, ?_, ?_⟩
            · refine ⟨_, rfl, _, rfl, _, _, rfl, rfl, (by show 2 ≤ sizeLine; decide), fun L hL => ?_⟩
              have s10 := same_upd hL (.lst [.int ((m + 1 : Nat) : Int), .int ((i : Int) + 1)])
              have nL := G9.dr.free hL
              refine ⟨_, rfl, d, c, 2, rfl, (G9.same s10).dr, by decide, by decide, fun r H10 r0 r2 x10 D10 => ?_⟩
              have G10 := (G9.same s10).ex x10 D10
              have eL : H10 L = some (.lst [.int ((m + 1 : Nat) : Int), .int ((i : Int) + 1)]) := x10.but _ _ nL.1 nL.2 upd_same
              obtain ⟨j, j1, jm, ej⟩ : ∃ j : Nat, 1 ≤ j ∧ j ≤ m + 1 ∧ atI [V.int ((m + 1 : Nat) : Int), V.int ((i : Int) + 1)] r = some (.int (j : Int)) := by
                have : r = 0 ∨ r = 1 := by omega
                rcases this with rfl | rfl
                · exact ⟨m + 1, by omega, by omega, atI_nat (j := 0) rfl⟩
                · refine ⟨i + 1, by omega, by omega, (atI_nat (j := 1) rfl).trans ?_⟩
                  have : ((i : Int) + 1) = ((i + 1 : Nat) : Int) := by omega
                  rw [this]
              exact ⟨L, _, _, _, rfl, rfl, SqL.of eL, ej, j, rfl, (Ex.of s10).trans x10, D10, j1, jm⟩
            rintro σ H10 ⟨j, rfl, x10, D10, j1, jm⟩
            have G10 := G9.ex x10 D10
            have keepC : ∀ {b : Addr} {o : HO}, b ≠ d → b ≠ c → H7 b = some o → H10 b = some o := fun n1 n2 h => x10.but _ _ n1 n2 (sm9 _ _ (x8.but _ _ n1 n2 h))
            have tk10 : Tk H7 H10 := ((x8.tk G7.dr).trans (.of sm9)).trans (x10.tk G9.dr)
            have ec10 := keepC ncl.1 ncl.2 ec7
            have ef10 := keepC nfl.1 nfl.2 ef7
            have epa10 := x10.tk G9.dr _ _ (sm9 _ _ epa)
            refine ⟨_, rfl, .inl ⟨rfl, _, SqL.of ec10⟩, _, rfl, _, rfl, _, rfl, _, rfl, _, rfl, d, c, 3, rfl, D10, by decide, by decide, fun r H11 r0 r3 x11 D11 => ⟨_, _, rfl, rfl, _, rfl, ?_⟩⟩
            obtain ⟨kk, hkk, rfl⟩ : ∃ kk : Nat, kk < 3 ∧ r = (kk : Int) := ⟨r.toNat, by omega, by omega⟩
            have ekk : (1 : Int) + (kk : Int) = ((kk + 1 : Nat) : Int) := by omega
            have G11 := G10.ex x11 D11
            have B11 : BdG d c pl na kvs SZ ns H11 := ⟨D11, G11.ep, fun w hw => (by
              obtain ⟨q, e1, e2⟩ := G11.pw w hw
              exact ⟨q, _, e1, e2⟩), fun w hw => ⟨(G11.sz w hw).1, (G11.sz w hw).2.1⟩, l4, x11.but _ _ nna.1 nna.2 (x10.but _ _ nna.1 nna.2 ena), lns, nok, nna⟩
            refine ⟨d, c, pl, na, kvs, SZ, ns, kk + 1, j, (by show [V.ref d, V.ref pl, V.ref na, V.int (1 + (kk : Int)), V.int (j : Int)] = _; rw [ekk]), B11, j1, by omega, by omega, by omega, fun v tt H12 x12 D12 i12' bd12 dp12 ct12 => ?_⟩
            refine ⟨(by show 2 ≤ sizeLine; decide), fun p hp => ?_⟩
            have s13 := same_upd hp (.tup [.ref pa, v])
            have ec13 := s13 _ _ (x12.but _ _ ncl.1 ncl.2 (x11.but _ _ ncl.1 ncl.2 ec10))
            have ef13 := s13 _ _ (x12.but _ _ nfl.1 nfl.2 (x11.but _ _ nfl.1 nfl.2 ef10))
            have tk12 : Tk H10 H12 := (x11.tk G10.dr).trans (x12.tk D11)
            have tk13 := tk12.trans (.of s13)
            have G13 := (G11.ex x12 D12).same s13
            have xx : Ex d c H7 (upd H12 p (.tup [.ref pa, v])) := (((x8.trans (.of sm9)).trans x10).trans (x11.trans x12)).trans (.of s13)
            refine ⟨cl, us, .ref p, rfl, rfl, ec13, small1000 (by omega), by omega, _, _, _, _, _, us ++ [.ref p], cs ++ [⟨ps, tt⟩], rfl, (x7.trans xx).own hcl _, G13.own G5 hcl, by rw [upd_ne nfc]; exact ef13, upd_same, IsL.tk (Tk.wr ⟨_, ec13⟩) ?_, fun x hx => ?_, by rw [List.length_append, lc]; rfl⟩
            · rw [List.map_append]
              refine (iC.tk (tk10.trans tk13)).append (.cons (.tup upd_same (.cons (.tup (tk13 _ _ epa10) (((iP.same sm9).tk (x10.tk G9.dr)).tk tk13)) (.cons (i12'.same s13) .nil))) .nil)
            · rcases List.mem_append.mp hx with h | h
              · exact cg x h
              · rw [List.mem_singleton.mp h]
                have bs : bsz (kk + 1) ≤ 30 := by
                  have : kk = 0 ∨ kk = 1 ∨ kk = 2 := by omega
                  rcases this with rfl | rfl | rfl <;> decide
                exact ⟨⟨lp, pg, nd, bdOk_tm bd12, by show dep tt ≤ 5; omega, by show cnt tt ≤ 60; omega⟩, nm, bd12.mono (fun _ h => h) inl⟩
          · rintro σ H7 ⟨_, y8, y9, y10, y11, y12, us, cs, e1, x7, G7, ef7, ec7, iC, cg, lc⟩
            exact ⟨y8, y9, y10, y11, y12, us, cs, e1, x7, G7, ef7, ec7, iC, cg, by omega⟩
        · rintro σ H6 ⟨y8, y9, y10, y11, y12, us, cs, rfl, x6, G6, ef6, ec6, iC, cg, lc⟩
          have luc := iC.len
          rw [List.length_map] at luc
          refine ⟨fun σ H7 => ∃ (pa : Addr) (pvs : List V), σ = [some (.ref d), some (.int ((m + 1 : Nat) : Int)), some (.ref pl), some (.int (i : Int)), some (.int (sz : Nat)), some (.ref fl), some (.int at_), some (.ref cl), y8, y9, y10, y11, y12, some (.ref pa), none] ∧ Same H6 H7 ∧ H7 pa = some (.tup pvs) ∧ IsL H7 pvs (List.replicate sz (.tup [.str "Fa", .str "a"])), ?_, ?_⟩
          · refine ⟨_, rfl, (sz : Int), rfl, by omega, by omega, fun D hD => ?_⟩
            have s8 := same_upd hD (.lst [])
            refine lc_range (n := sz) (fun j H8 => j ≤ sz ∧ ∃ (pvs : List V), H8 D = some (.lst pvs) ∧ IsL H8 pvs (List.replicate j (.tup [.str "Fa", .str "a"])) ∧ Same H6 H8) ?_ ?_ ?_
            · exact ⟨Nat.zero_le _, [], upd_same, .nil, s8⟩
            · rintro j H8 hj ⟨_, pvs, eD, iP, sm⟩
              have lpv := iP.len
              rw [List.length_replicate] at lpv
              refine ⟨rfl, yes_if ⟨(by show 2 ≤ sizeLine; decide), fun p hp => ?_⟩⟩
              have s9 := same_upd hp (.tup [.str "Fa", .str "a"])
              have eD9 := s9 _ _ eD
              refine ⟨pvs, eD9, small1000 (by omega), hj, pvs ++ [.ref p], upd_same, IsL.tk (Tk.wr ⟨_, eD9⟩) ?_, Kx.Same.own (sm.trans s9) hD _⟩
              rw [List.replicate_succ']
              exact (iP.same s9).append (.cons (.tup upd_same (.cons (.str _ (by decide +kernel)) (.cons (.str _ (by decide +kernel)) .nil))) .nil)
            · rintro H8 ⟨_, pvs, eD, iP, sm⟩
              refine ⟨D, pvs, rfl, .inl ⟨SqL.of eD, fun l hl => ?_⟩⟩
              have s9 := same_upd hl (.tup pvs)
              exact ⟨l, pvs, rfl, sm.trans s9, upd_same, iP.same s9⟩
          rintro σ H7 ⟨pa, pvs, rfl, sm, epa, iP⟩
          have ef7 := sm _ _ ef6
          have ec7 := sm _ _ ec6
          have G7 := G6.same sm
          refine ⟨_, rfl, .inl ⟨rfl, _, SqL.of ef7⟩, _, rfl, _, rfl, num_log _ i12, _, _, rfl, rfl, num_len _ i12, _, rfl, _, rfl, _, rfl, cl, us, rfl, .inl ⟨SqL.of ec7, fun l hl => ⟨(by show 6 ≤ sizeLine; decide), fun p hp => ?_⟩⟩⟩
          have s8 := same_upd hl (.tup us)
          have s9 := same_upd hp (.tup [.str (fw i), .ref pa, .str "Fa", .str "a", .int at_, .ref l])
          have s89 := s8.trans s9
          have lvs := iF.len
          rw [List.length_map] at lvs
          have lfs := congrArg List.length ew5
          rw [List.length_map, heads, List.length_map, List.length_range] at lfs
          have ef9 := s89 _ _ ef7
          refine ⟨fl, vs, .ref p, rfl, rfl, ef9, small1000 (by omega), by omega, _, _, _, _, _, _, _, _, _, _, vs ++ [.ref p], fs ++ [⟨fw i, sz, at_, cs⟩], rfl, (((x5.trans x6).trans (.of sm)).trans (.of s89)).own hfl _, (G7.same s89).own G3 hfl, upd_same, IsL.tk (Tk.wr ⟨_, ef9⟩) ?_, ?_, fun f hf => ?_⟩
          · rw [List.map_append]
            refine (iF.tk ((x6.tk G5.dr).trans (.of (sm.trans s89)))).append (.cons (.tup upd_same (.cons (.str _ (fw_ok i i12)) (.cons (.tup (s89 _ _ epa) (iP.same s89)) (.cons (.str _ (by decide +kernel)) (.cons (.str _ (by decide +kernel)) (.cons (.int _) (.cons (.tup (s9 _ _ upd_same) (iC.same (sm.trans s89))) .nil))))))) .nil)
          · rw [List.map_append, ew5, heads, heads, List.range_succ, List.map_append]
            show _ ++ [(fw i, sz)] = _ ++ [(fw i, SZ.getD i 0)]
            rw [hsz]
          · rcases List.mem_append.mp hf with h | h
            · exact fg f h
            · rw [List.mem_singleton.mp h]
              exact ⟨⟨sz1, sz2⟩, lc, cg, at1, at2⟩
      · rintro σ H5 ⟨_, y3, y4, y6, y7, y8, y9, y10, y11, y12, y13, vs, fs, r⟩
        exact ⟨y3, y4, y6, y7, y8, y9, y10, y11, y12, y13, vs, fs, r⟩
    rintro σ H5 ⟨y3, y4, y6, y7, y8, y9, y10, y11, y12, y13, vs, fs, rfl, x5, G5, efl, iF, ew5, fg⟩
    have lF := iF.len
    rw [List.length_map] at lF
    refine ⟨_, rfl, fl, vs, rfl, .inl ⟨SqL.of efl, fun l hl => ⟨(by show 2 ≤ sizeLine; decide), fun p hp => ?_⟩⟩⟩
    have s6 := same_upd hl (.tup vs)
    have s7 := same_upd hp (.tup [.str "program", .ref l])
    have s67 := s6.trans s7
    rw [← lz] at ew5
    exact q _ fs _ (((x1.trans x3).trans x5).trans (.of s67)) (G5.dr.same s67) (.tup upd_same (.cons (.str _ (by decide +kernel)) (.cons (.tup (s7 _ _ upd_same) (iF.same s67)) .nil))) (pg_of (by omega) l4 ew5 fg)
end
end Kx
namespace Kx
open PySem PySem.Spec PyProof.Rows L2
section
variable {P : Program} {w : World} {K : PySem.W.Frag} {mg : Str → Option Value} {base : Heap}
set_option pp.maxSteps 1500
/-- x is a node with the word w -/
def Hd (H : Hp) (x : V) (w : Str) : Prop := ∃ a r, x = .ref a ∧ H a = some (.tup (.str w :: r))
theorem Hd.tk {H H' : Hp} (x : Tk H H') {v : V} {w : Str} (h : Hd H v w) : Hd H' v w := by
  obtain ⟨a, r, e, e2⟩ := h
  exact ⟨a, r, e, x _ _ e2⟩
theorem hds_tk {H H' : Hp} (x : Tk H H') {xs : List V} {ws : List Str} (h : Paired (Hd H) xs ws) : Paired (Hd H') xs ws := Paired.imp h fun _ _ z => z.tk x
theorem pair_snoc {α β : Type} {F : α → β → Prop} : ∀ {l : List α} {m : List β} {x : α} {y : β}, Paired F l m → F x y → Paired F (l ++ [x]) (m ++ [y])
  | _, _, _, _, .nil, h => .cons h .nil
  | _, _, _, _, .cons a t, h => .cons a (pair_snoc t h)
theorem pair_len {α β : Type} {F : α → β → Prop} : ∀ {l : List α} {m : List β}, Paired F l m → l.length = m.length
  | _, _, .nil => rfl
  | _, _, .cons _ t => by simp [pair_len t]
theorem Paired.get {α β : Type} {F : α → β → Prop} : ∀ {l : List α} {m : List β}, Paired F l m → ∀ {i : Nat} {x : α}, l[i]? = some x → ∃ y, m[i]? = some y ∧ F x y
  | _, _, .nil, i, x, h => by simp at h
  | _, _, .cons h r, 0, x, e => by cases (Option.some.inj e); exact ⟨_, rfl, h⟩
  | _, _, .cons h r, i + 1, x, e => Paired.get r (by simpa using e)
def spNodesN : Sp := fun vs H Q _ => ∃ v t, vs = [v] ∧ Is H v t ∧ Tm t ∧ cnt t ≤ 100 ∧ ∀ a H' xs ws, Same H H' → H' a = some (.lst xs) → IsL H' xs ws → (∀ w, w ∈ ws ↔ w ∈ nd t) → ws.length ≤ 100 → Q (.ref a) H'
theorem ok_nodes_of (T : Txt K mg)  : FnOk P w K mg base CX0 1 T.a_nodes_of T.d_nodes_of ["body"] spNodesN := by
  refine T.F_nodes_of.ok sc_nodes_of (fun vs H Q E h => ?_) (fun cdv A outer s H vs Q E hr h => ?_)
  · obtain ⟨v, t, rfl, _⟩ := h; rfl
  · obtain ⟨v, t, rfl, hI, hT, h100, q⟩ := h
    refine ⟨_, (pss_cons (ps_set (i := 1) sc_nodes_of.nd rfl (Or.inl rfl) (pe_lst pa_nil))
    (pss_cons (ps_set (i := 2) sc_nodes_of.nd rfl (Or.inl rfl) (pe_lst (pa_cons (pv 0) pa_nil)))
    (pss_cons (ps_while PassesOwn.never (pt_truth (pv 2) (by intro _; rfl))
    (pss_cons (ps_set (i := 3) sc_nodes_of.nd rfl (Or.inl rfl) (pe_bm0 PySem.F.plainAttrs_list PySem.F.slot_list_pop PySem.F.type_list_pop mt_pop (pv 2)))
    (pss_one (ps_if (pt_val (pe_callB call_isi (by rfl) T.z_isinstance (by decide +kernel) (pa_cons (pv 3) (pa_cons (pe_bltn rfl T.z_tuple (by decide +kernel) (show RelV (V.ty "tuple") (Value.type "tuple") from rfl)) pa_nil)))) (pss_cons (ps_expr (pe_bm PySem.F.plainAttrs_list PySem.F.slot_list_append PySem.F.type_list_append mt_append (pv 1) (pa_cons (pv 3) pa_nil)))
    (pss_one (ps_expr (pe_bm PySem.F.plainAttrs_list PySem.F.slot_list_extend PySem.F.type_list_extend mt_extT (pv 2) (pa_cons (pe_slice sl_tupF (pv 3) (po_some pe_int) po_none) pa_nil))))) pss_nil))))
    (pss_one (ps_ret (pv 1)))))), ?_⟩
    refine ⟨(by show 0 ≤ sizeLine; decide), fun fa hf => ?_⟩
    refine ⟨_, rfl, (by show 1 ≤ sizeLine; decide), fun ta ht => ?_⟩
    have s1 := same_upd hf (.lst [])
    have s2 := same_upd ht (.lst [v])
    have ft : H ta = none := s1.free ht
    have nft : fa ≠ ta := ne_of_none upd_same ht
    refine ⟨fun m σ H2 => ∃ (y3 : Option V) (vs : List V) (ts : List PV) (xs : List V) (ws : List PV), σ = [some v, some (.ref fa), some (.ref ta), y3] ∧ Same H H2 ∧ H2 fa = some (.lst xs) ∧ H2 ta = some (.lst vs) ∧ IsL H2 vs ts ∧ (∀ x ∈ ts, Tm x) ∧ cntL ts = m ∧ IsL H2 xs ws ∧ ws.length + cntL ts ≤ 100 ∧ ∀ w, w ∈ nd t ↔ w ∈ ws ∨ w ∈ ndL ts, ⟨cnt t, ?_⟩, ?_⟩
    · refine ⟨none, [v], [t], [], [], rfl, s1.trans s2, by rw [upd_ne nft, upd_same], upd_same, .cons ((hI.same s1).same s2) .nil, fun x hx => by rw [List.mem_singleton.mp hx]; exact hT, by simp [cntL], .nil, ?_, fun w => by simp [ndL]⟩
      simp [cntL]; exact h100
    · intro m σ H2 ⟨y3, vs, ts, xs, ws, es, sm, ef, et, hL, hTs, hm, hp, hb, hd⟩
      subst es
      have lxs := hp.len
      refine ⟨_, rfl, _, .inl ⟨_, SqL.of et, rfl⟩, ?_⟩
      refine ite2 (fun cv => ?_) (fun cv => ?_)
      case refine_2 =>
        have hv : vs = [] := by cases vs with | nil => rfl | cons _ _ => exact absurd rfl cv
        subst hv
        cases hL
        exact ⟨_, rfl, q fa H2 xs ws sm ef hp (fun w => by rw [hd w]; simp [ndL]) (by omega)⟩
      have hne : vs ≠ [] := by intro e; rw [e] at cv; cases cv
      have hlast : vs[vs.length - 1]? = some (vs.getLast hne) := by
        rw [List.getLast_eq_getElem, List.getElem?_eq_getElem]
      obtain ⟨ts', y, ets, hy, hL'⟩ := hL.snoc_inv hlast hne
      have hlen := hL'.len
      have cts : cntL ts = cntL ts' + cnt y := by rw [ets, cntL_append]; simp [cntL]
      have cy := cnt_pos y
      refine ⟨fun σ' H' => ∃ m', m' < m ∧ ∃ (y3 : Option V) (vs : List V) (ts : List PV) (xs : List V) (ws : List PV), σ' = [some v, some (.ref fa), some (.ref ta), y3] ∧ Same H H' ∧ H' fa = some (.lst xs) ∧ H' ta = some (.lst vs) ∧ IsL H' vs ts ∧ (∀ x ∈ ts, Tm x) ∧ cntL ts = m' ∧ IsL H' xs ws ∧ ws.length + cntL ts ≤ 100 ∧ ∀ w, w ∈ nd t ↔ w ∈ ws ∨ w ∈ ndL ts, fun σ' H' z => z, ?_⟩
      refine ⟨_, rfl, .inl ⟨rfl, _, SqL.of et⟩, ta, vs, _, rfl, rfl, et, hlast, ?_⟩
      have x3 : El ta H2 (upd H2 ta (.lst vs.dropLast)) := .set _
      have t3 := x3.tk ⟨_, et⟩
      have sm3 : Same H (upd H2 ta (.lst vs.dropLast)) := Kx.Same.own sm ft _
      have hy3 := hy.tk t3
      have hL3 := hL'.tk t3
      have ef3 : (upd H2 ta (.lst vs.dropLast)) fa = some (.lst xs) := by rw [upd_ne nft]; exact ef
      have et3 : (upd H2 ta (.lst vs.dropLast)) ta = some (.lst vs.dropLast) := upd_same
      have hp3 := hp.tk t3
      have yT : Tm y := hTs y (by rw [ets]; simp)
      have hTs' : ∀ x ∈ ts', Tm x := fun x hx => hTs x (by rw [ets]; exact List.mem_append_left _ hx)
      have hd3 : ∀ w, w ∈ nd t ↔ w ∈ ws ∨ w ∈ ndL ts' ∨ w ∈ nd y := fun w => by rw [hd w, ets, ndL_append]; simp [ndL]
      obtain ⟨u, ty, kt⟩ := hy3.ty (K := K)
      generalize upd H2 ta (.lst vs.dropLast) = H3 at *
      refine ⟨_, rfl, _, _, u, _, _, rfl, .ty _, ty, kit_tup kt, _, rfl, ite2 (fun c => ?_) (fun c => ?_)⟩
      · obtain ⟨a, w, vs2, r, ev, rfl, ea, hL2, hr2⟩ := tm_tup_inv hy3 yT (by cases y with | str z => cases c | int i => rfl | tup l => rfl)
        rw [ev]
        rw [cnt_cons] at cts cy
        have hlen2 := hL2.len
        have cl := cntL_len r
        have cl2 := cntL_len ts'
        refine ⟨_, rfl, .inl ⟨rfl, _, SqL.of ef3⟩, _, rfl, fa, xs, _, rfl, rfl, ef3, small1000 (by omega), ?_⟩
        have t4 : Tk H3 (upd H3 fa (.lst (xs ++ [.ref a]))) := Tk.wr ⟨_, ef3⟩
        have sm4 : Same H (upd H3 fa (.lst (xs ++ [.ref a]))) := Kx.Same.own sm3 hf _
        have et4 : (upd H3 fa (.lst (xs ++ [.ref a]))) ta = some (.lst vs.dropLast) := by rw [upd_ne nft.symm]; exact et3
        have ef4 : (upd H3 fa (.lst (xs ++ [.ref a]))) fa = some (.lst (xs ++ [.ref a])) := upd_same
        have hp4 : IsL (upd H3 fa (.lst (xs ++ [.ref a]))) (xs ++ [.ref a]) (ws ++ [.tup (.str w :: r)]) := (hp3.tk t4).append (.cons (ev ▸ hy3.tk t4) .nil)
        have ea4 := t4 _ _ ea
        have hL4 := hL3.tk t4
        have hL24 := hL2.tk t4
        generalize upd H3 fa (.lst (xs ++ [.ref a])) = H4 at *
        refine ⟨_, rfl, .inl ⟨rfl, _, SqL.of et4⟩, _, rfl, _, rfl, a, _, rfl, .inl (.inl ea4), slice1, fun p o hp5 od os => ?_⟩
        rw [cut1]
        have s5 := same_upd hp5 (.frz o (.tup vs2))
        refine ⟨ta, p, _, _, rfl, rfl, s5 _ _ et4, ⟨o, upd_same, od, os⟩, ?_, ?_⟩
        · rw [hlen, hlen2]
          exact Nat.le_of_lt (small1000 (by omega))
        · have t6 : Tk H4 (upd (upd H4 p (.frz o (.tup vs2))) ta (.lst (vs.dropLast ++ vs2))) := (Tk.of s5).trans (Tk.wr ⟨_, s5 _ _ et4⟩)
          refine ⟨cntL (ts' ++ r), by rw [cntL_append]; omega, _, _, ts' ++ r, xs ++ [.ref a], ws ++ [.tup (.str w :: r)], rfl, Kx.Same.own (sm4.trans s5) ft _, by rw [upd_ne nft]; exact s5 _ _ ef4, upd_same, (hL4.append hL24).tk t6, fun x hx => ?_, rfl, hp4.tk t6, by rw [List.length_append, cntL_append, List.length_singleton]; omega, fun w' => ?_⟩
          · rcases List.mem_append.mp hx with h | h
            · exact hTs' x h
            · exact mem_TmL hr2 x h
          · rw [hd3 w', ndL_append]
            simp only [nd, List.mem_append, List.mem_cons, List.mem_singleton]
            constructor
            · rintro (h | h | h | h)
              · exact .inl (.inl h)
              · exact .inr (.inl h)
              · exact .inl (.inr (by simpa using h))
              · exact .inr (.inr h)
            · rintro ((h | h) | h | h)
              · exact .inl h
              · exact .inr (.inr (.inl (by simpa using h)))
              · exact .inr (.inl h)
              · exact .inr (.inr (.inr h))
      · cases y with
        | int i => exact absurd yT (by simp [Tm])
        | tup l => exact absurd rfl c
        | str z =>
        refine ⟨cntL ts', by omega, _, _, ts', xs, ws, rfl, sm3, ef3, et3, hL3, hTs', rfl, hp3, by omega, fun w' => ?_⟩
        rw [hd3 w']; simp [nd]
theorem hds_of {H : Hp} : ∀ {xs : List V} {ns : List PV}, IsL H xs ns → (∀ n ∈ ns, ∃ r, n = .tup (.str (wd n) :: r)) → Paired (Hd H) xs (ns.map wd)
  | _, _, .nil, _ => .nil
  | _, _, .cons (t := n) h t, g => by
    obtain ⟨r, e⟩ := g _ (List.mem_cons_self ..)
    refine .cons ?_ (hds_of t fun x hx => g x (List.mem_cons_of_mem _ hx))
    rw [e] at h
    obtain ⟨a, vs, rfl, ea, iL⟩ := h.tup_inv
    cases iL with
    | cons hz _ =>
      cases hz.str_inv
      exact ⟨a, _, rfl, ea⟩
def spNodes : Sp := fun vs H Q _ => ∃ v t, vs = [v] ∧ Is H v t ∧ Tm t ∧ cnt t ≤ 100 ∧ ∀ a H' xs ws, Same H H' → H' a = some (.lst xs) → Paired (Hd H') xs ws → (∀ w, w ∈ ws ↔ w ∈ nw t) → ws.length ≤ 100 → Q (.ref a) H'
theorem nodes_old {k : Nat} (T : Txt K mg) (F : FnOk P w K mg base CX0 k T.a_nodes_of T.d_nodes_of ["body"] spNodesN) : FnOk P w K mg base CX0 k T.a_nodes_of T.d_nodes_of ["body"] spNodes :=
  FnOk.weak F fun vs H Q E ⟨v, t, e, i, tm, c, q⟩ => ⟨v, t, e, i, tm, c, fun a H' xs ns s ea il m l => q a H' xs (ns.map wd) s ea (hds_of il fun n hn => nd_inv ((m n).mp hn)) (fun w => by
    rw [nw_eq, List.mem_map, List.mem_map]
    exact ⟨fun ⟨n, hn, e⟩ => ⟨n, (m n).mp hn, e⟩, fun ⟨n, hn, e⟩ => ⟨n, (m n).mpr hn, e⟩⟩) (by rw [List.length_map]; exact l)⟩
theorem find_w {fs : List Fn} {z : Str} : fs.find? (fun f => f.w == z) = none → z ∉ fs.map Fn.w := fun h hz => by
  obtain ⟨f, hf, e⟩ := List.mem_map.mp hz
  have := List.find?_eq_none.mp h f hf
  simp [e] at this
theorem prog_inv {H : Hp} {v : V} {fs : List Fn} (h : Is H v (progPV fs)) : ∃ a fa vs, v = .ref a ∧ H a = some (.tup [.str "program", .ref fa]) ∧ H fa = some (.tup vs) ∧ IsL H vs (fs.map fnPV) := by
  obtain ⟨a, us, rfl, e, hL⟩ := h.tup_inv
  cases hL with
  | cons h0 hL =>
  cases hL with
  | cons h1 hL =>
  cases hL
  obtain ⟨fa, vs, rfl, e2, iF⟩ := h1.tup_inv
  cases h0.str_inv
  exact ⟨a, fa, vs, rfl, e, e2, iF⟩
theorem fn_inv {H : Hp} {v : V} {f : Fn} (h : Is H v (fnPV f)) : ∃ a pa ca ps cs, v = .ref a ∧ H a = some (.tup [.str f.w, .ref pa, .str "Fa", .str "a", .int f.at_, .ref ca]) ∧ H pa = some (.tup ps) ∧ ps.length = f.np ∧ H ca = some (.tup cs) ∧ IsL H cs (f.cls.map clPV) ∧ sok f.w = true := by
  obtain ⟨a, us, rfl, e, hL⟩ := h.tup_inv
  cases hL with
  | @cons v0 _ _ _ h0 hL =>
  cases hL with
  | @cons v1 _ _ _ h1 hL =>
  cases hL with
  | @cons v2 _ _ _ h2 hL =>
  cases hL with
  | @cons v3 _ _ _ h3 hL =>
  cases hL with
  | @cons v4 _ _ _ h4 hL =>
  cases hL with
  | @cons v5 _ _ _ h5 hL =>
  cases hL
  obtain ⟨pa, ps, rfl, ep, iP⟩ := h1.tup_inv
  obtain ⟨ca, cs, rfl, ec, iC⟩ := h5.tup_inv
  have lp := iP.len
  rw [List.length_replicate] at lp
  cases h0 with
  | str _ k =>
  cases h2.str_inv
  cases h3.str_inv
  cases h4
  exact ⟨a, pa, ca, ps, cs, rfl, e, ep, lp, ec, iC, k⟩
theorem cl_inv {H : Hp} {v : V} {c : Cl} (h : Is H v (clPV c)) : ∃ a pa ps bv, v = .ref a ∧ H a = some (.tup [.ref pa, bv]) ∧ H pa = some (.tup ps) ∧ IsL H ps c.ps ∧ Is H bv c.body := by
  obtain ⟨a, us, rfl, e, hL⟩ := h.tup_inv
  cases hL with
  | @cons v0 _ _ _ h0 hL =>
  cases hL with
  | @cons v1 _ _ _ h1 hL =>
  cases hL
  obtain ⟨pa, ps, rfl, ep, iP⟩ := h0.tup_inv
  exact ⟨a, pa, ps, _, rfl, e, ep, iP, h1⟩
def spFof : Sp := fun vs H Q _ => ∃ v fs z, vs = [v, .str z] ∧ Is H v (progPV fs) ∧ ∀ v', (∀ f, fs.find? (fun f => f.w == z) = some f → Is H v' (fnPV f)) → (fs.find? (fun f => f.w == z) = none → v' = .non) → Q v' H
theorem ok_function_of (T : Txt K mg)  : FnOk P w K mg base CX0 1 T.a_function_of T.d_function_of ["program", "word"] spFof := by
  refine T.F_function_of.ok sc_function_of (fun vs H Q E h => ?_) (fun cdv A outer s H vs Q E hr h => ?_)
  · obtain ⟨v, fs, z, rfl, _⟩ := h; rfl
  · obtain ⟨v, fs, z, rfl, hI, q⟩ := h
    refine ⟨_, (pss_cons (ps_for PassesOwn.never rfl (pi_tup (pe_ix ix_tup (pv 0) pe_int (fun _ _ => rfl))) (pg_name (i := 2) sc_function_of.nd rfl (Or.inl rfl))
    (pss_one (ps_if (pt_cmpR op_eq (pe_ix ix_tup (pv 2) pe_int (fun _ _ => rfl)) (pv 1) (nomark _)) (pss_one (ps_ret (pv 2))) pss_nil)))
    (pss_one (ps_ret pe_non))), ?_⟩
    obtain ⟨a, fa, vs, rfl, ea, ef, iF⟩ := prog_inv hI
    refine ⟨_, rfl, a, _, _, _, rfl, rfl, .inl (.inl ea), atI_nat (j := 1) rfl, fa, rfl, ⟨_, .inl (.inl ef)⟩, ?_⟩
    refine for_tup (K := K) (a := fa) (xs := vs) (fun i σ H2 => ∃ y2, σ = [some (.ref a), some (.str z), y2] ∧ H2 = H ∧ (fs.take i).find? (fun f => f.w == z) = none) ?_ ?_ ?_ ?_
    · exact ⟨none, rfl, rfl, rfl⟩
    · rintro i σ H2 _ ⟨_, _, rfl, _⟩
      exact .inl (.inl ef)
    · rintro i x σ H2 hx ⟨y2, rfl, rfl, hn⟩
      obtain ⟨t, et, it⟩ := iF.get hx
      rw [List.getElem?_map] at et
      obtain ⟨f, ef', rfl⟩ := Option.map_eq_some_iff.mp et
      obtain ⟨b, pa, ca, ps, cs, rfl, eb, _, _, _, _, _⟩ := fn_inv it
      obtain ⟨hi, eg⟩ := List.getElem?_eq_some_iff.mp ef'
      have tk : fs = fs.take i ++ f :: fs.drop (i + 1) := by
        rw [← eg, ← List.drop_eq_getElem_cons hi, List.take_append_drop]
      have tk1 : fs.take (i + 1) = fs.take i ++ [f] := by rw [List.take_succ_eq_append_getElem hi, eg]
      refine ⟨_, rfl, b, _, _, _, rfl, rfl, .inl (.inl eb), atI_nat (j := 0) rfl, _, rfl, rfl, _, rfl, ite2 (fun c => ?_) (fun c => ?_)⟩
      · have e : f.w = z := V.str.inj (of_decide_eq_true c)
        have fd : fs.find? (fun f => f.w == z) = some f := by
          rw [tk, List.find?_append, hn]
          simp [e]
        refine ⟨_, rfl, q _ (fun g hg => ?_) (fun hg => ?_)⟩
        · rw [fd] at hg; cases hg; exact it
        · rw [fd] at hg; cases hg
      · have e : ¬ f.w = z := fun e => c (by rw [e]; exact decide_eq_true rfl)
        refine ⟨_, rfl, rfl, ?_⟩
        rw [tk1, List.find?_append, hn]
        simp [e]
    · rintro σ H2 ⟨y2, rfl, rfl, hn⟩
      have lF := iF.len
      rw [List.length_map] at lF
      rw [lF, List.take_length] at hn
      exact q _ (fun f hf => by rw [hn] at hf; cases hf) fun _ => rfl
end
end Kx
namespace Kx
open PySem PySem.Spec PyProof.Rows L2
section
variable {P : Program} {w : World} {K : PySem.W.Frag} {mg : Str → Option Value} {base : Heap}
set_option pp.maxSteps 1500
theorem prog_ok {H : Hp} {v : V} {fs : List Fn} (h : Is H v (progPV fs)) : ∀ y ∈ fs.map Fn.w, sok y = true := by
  obtain ⟨_, _, vs, _, _, _, iF⟩ := prog_inv h
  have key : ∀ {vs : List V} {l : List Fn}, IsL H vs (l.map fnPV) → ∀ y ∈ l.map Fn.w, sok y = true := by
    intro vs l
    induction l generalizing vs with
    | nil => intro _ y hy; cases hy
    | cons f r ih =>
      intro i y hy
      cases i with
      | cons h0 i =>
      rcases List.mem_cons.mp hy with e | e
      · obtain ⟨_, _, _, _, _, _, _, _, _, _, _, k⟩ := fn_inv h0
        rw [e]; exact k
      · exact ih i y e
  exact key iF
theorem fn_one {fs : List Fn} (nd : (fs.map Fn.w).Nodup) : ∀ {f g : Fn}, f ∈ fs → g ∈ fs → f.w = g.w → f = g := by
  induction fs with
  | nil => intro f g h; cases h
  | cons x r ih =>
    intro f g hf hg e
    obtain ⟨n1, n2⟩ := List.nodup_cons.mp nd
    rcases List.mem_cons.mp hf with rfl | h1 <;> rcases List.mem_cons.mp hg with rfl | h2
    · rfl
    · exact absurd (List.mem_map.mpr ⟨g, h2, e.symm⟩) n1
    · exact absurd (show g.w ∈ r.map Fn.w from List.mem_map.mpr ⟨f, h1, e⟩) n1
    · exact ih n2 h1 h2 e
theorem call_iff {fs : List Fn} (nd : (fs.map Fn.w).Nodup) {f : Fn} (hf : f ∈ fs) {y : Str} : Call fs f.w y ↔ y ∈ fs.map Fn.w ∧ ∃ c ∈ f.cls, y ∈ nw c.body := by
  constructor
  · rintro ⟨h, g, hg, e, r⟩
    rw [fn_one nd hg hf e] at r
    exact ⟨h, r⟩
  · rintro ⟨h, r⟩
    exact ⟨h, f, hf, rfl, r⟩
theorem find_at {fs : List Fn} {z : Str} (h : z ∈ fs.map Fn.w) : ∃ f, fs.find? (fun f => f.w == z) = some f ∧ f ∈ fs ∧ f.w = z := by
  cases e : fs.find? (fun f => f.w == z) with
  | none => exact absurd h (find_w e)
  | some f =>
    have := List.find?_some e
    exact ⟨f, rfl, List.mem_of_find?_eq_some e, beq_iff_eq.mp this⟩
theorem put_keys {kvs : List (Key × V)} {ks : List Str} {z : Str} {v : V} (h : kvs.map (·.1) = ks.map Sum.inr) : (putK kvs (Sum.inr z) v).map (·.1) = (add1 ks z).map Sum.inr := by
  have any : (kvs.any fun kv => decide (kv.1 = Sum.inr z)) = decide (z ∈ ks) := by
    have e : (kvs.any fun kv => decide (kv.1 = Sum.inr z)) = (kvs.map (·.1)).any fun k => decide (k = Sum.inr z) := by rw [List.any_map]; rfl
    rw [e, h, List.any_map]
    rw [Bool.eq_iff_iff]
    simp
  unfold putK add1
  rw [any]
  by_cases c : z ∈ ks
  · simp only [c, decide_true, if_true]
    rw [← h, List.map_map]
    refine List.map_congr_left fun kv _ => ?_
    show (if kv.1 = Sum.inr z then (kv.1, v) else kv).1 = kv.1
    split <;> rfl
  · simp only [c, decide_false, if_false, List.map_append, h, Bool.false_eq_true]
    rfl
theorem add1_nodup {ks : List Str} (h : ks.Nodup) (z : Str) : (add1 ks z).Nodup := by
  unfold add1
  split
  · exact h
  · rename_i n
    refine List.nodup_append.mpr ⟨h, by simp, fun a ha b hb e => ?_⟩
    rw [List.mem_singleton.mp hb] at e
    exact n (e ▸ ha)
theorem mem_add1 {ks : List Str} {z y : Str} : y ∈ add1 ks z ↔ y ∈ ks ∨ y = z := by
  unfold add1
  split
  · rename_i h
    exact ⟨.inl, fun q => q.elim id fun e => e ▸ h⟩
  · simp
theorem take_snoc {α : Type} {l : List α} {i : Nat} {x : α} (h : l[i]? = some x) : l.take (i + 1) = l.take i ++ [x] := by
  obtain ⟨hi, e⟩ := List.getElem?_eq_some_iff.mp h
  rw [List.take_succ_eq_append_getElem hi, e]
def ExD (f : Addr) (H H' : Hp) : Prop := ∀ b o, b ≠ f → H b = some o → H' b = some o
theorem ExD.refl (f : Addr) (H : Hp) : ExD f H H := fun _ _ _ h => h
theorem ExD.trans {f : Addr} {H H1 H2 : Hp} (a : ExD f H H1) (b : ExD f H1 H2) : ExD f H H2 := fun c o n h => b c o n (a c o n h)
theorem ExD.of {f : Addr} {H H' : Hp} (s : Same H H') : ExD f H H' := fun b o _ h => s b o h
theorem ExD.set {f : Addr} {H : Hp} (o : HO) : ExD f H (upd H f o) := fun b u n h => by rw [upd_ne n]; exact h
theorem ExD.tk {f : Addr} {H H' : Hp} (x : ExD f H H') (e : ∀ vs, H f ≠ some (.tup vs)) : Tk H H' := fun a vs h => x a _ (fun q => e vs (q ▸ h)) h
def spCalls : Sp := fun vs H Q _ => ∃ v fs z, vs = [v, .str z] ∧ Is H v (progPV fs) ∧ ProgG fs ∧ z ∈ fs.map Fn.w ∧ ∀ p H' ys, Same H H' → H' p = some (.tup (ys.map V.str)) → ys.Nodup → sortedS ys = true → (∀ y, y ∈ ys ↔ Call fs z y) → Q (.ref p) H'
theorem ok_calls_of (T : Txt K mg) (G_function_of : FnOk P w K mg base CX0 1 T.a_function_of T.d_function_of ["program", "word"] spFof) (G_nodes_of : FnOk P w K mg base CX0 1 T.a_nodes_of T.d_nodes_of ["body"] spNodes) : FnOk P w K mg base CX0 2 T.a_calls_of T.d_calls_of ["program", "word"] spCalls := by
  refine T.F_calls_of.ok sc_calls_of (fun vs H Q E h => ?_) (fun cdv A outer s H vs Q E hr h => ?_)
  · obtain ⟨v, fs, z, rfl, _⟩ := h; rfl
  · obtain ⟨v, fs, z, rfl, hI, G, hz, q⟩ := h
    have hr_function_of := hr
    have hr_nodes_of := hr
    have hu := hu_of hr
    refine ⟨_, (pss_cons (ps_setLc (i := 2) (own := [("function", 7)]) (g := (gName 7)) (tt := tYes) rfl sc_calls_of.nd rfl rfl (sw_true rfl rfl rfl (by decide +kernel)) (pi_tup (pe_ix ix_tup (pv 0) pe_int (fun _ _ => rfl))) (blkOk_by (own := [("function", 7)]) (N := ["program", "word", "words", "found", "_", "body", "node", "function"]) (sc := defScope s_calls_of) (by decide +kernel)) (fun _ _ _ _ _ => (pg_name (i := 7) sc_calls_of.nd rfl (Or.inl rfl))) (fun _ _ _ _ _ => pts_nil) (fun _ _ _ _ _ => (pe_ix (ixTK (K := K)) (pv 7) pe_int (fun _ _ => rfl))))
    (pss_cons (ps_set (i := 3) sc_calls_of.nd rfl (Or.inl rfl) pe_dnewK)
    (pss_cons (ps_for PassesOwn.never rfl (pi_tup (pe_ix ix_tup (pe_call G_function_of hr_function_of rfl T.m_function_of T.F_function_of.kp T.b_function_of .nil pass0 (pa_cons (pv 0) (pa_cons (pv 1) pa_nil))) pe_int (fun _ _ => rfl))) (pg_tup rfl (pgs_cons (pg_name (i := 4) sc_calls_of.nd rfl (Or.inl rfl)) (pgs_cons (pg_name (i := 5) sc_calls_of.nd rfl (Or.inl rfl)) pgs_nil)))
    (pss_one (ps_for PassesOwn.never rfl (pi_list (pe_call G_nodes_of hr_nodes_of rfl T.m_nodes_of T.F_nodes_of.kp T.b_nodes_of .nil pass0 (pa_cons (pv 5) pa_nil))) (pg_name (i := 6) sc_calls_of.nd rfl (Or.inl rfl))
    (pss_one (ps_if (pt_cmpR op_in_seq (pe_ix ix_tup (pv 6) pe_int (fun _ _ => rfl)) (pv 2) (by rfl)) (pss_one (ps_dput hu (pv 3) (pe_ix ix_tup (pv 6) pe_int (fun _ _ => rfl)) pe_bl rfl)) pss_nil)))))
    (pss_one (ps_ret (pe_callTy call_tuple_of (by rfl) T.z_tuple (by decide +kernel) (pa_cons (pe_callB (call_sortedD rfl) (by rfl) T.z_sorted (by decide +kernel) (pa_cons (pv 3) pa_nil)) pa_nil))))))), ?_⟩
    obtain ⟨a, fa, vs, rfl, ea, ef, iF⟩ := prog_inv hI
    have lF := iF.len
    rw [List.length_map] at lF
    have l4 := G.len
    refine ⟨_, rfl, a, _, _, _, rfl, rfl, .inl (.inl ea), atI_nat (j := 1) rfl, fa, rfl, ⟨_, .inl (.inl ef)⟩, fun D hD => ?_⟩
    refine lc_tup (K := K) (a := fa) (xs := vs) (fun i H2 => Same H H2 ∧ H2 D = some (.lst (((fs.take i).map Fn.w).map V.str))) ?_ ?_ ?_ ?_
    · exact ⟨same_upd hD _, upd_same⟩
    · exact fun i H2 _ ⟨sm, _⟩ => .inl (.inl (sm _ _ ef))
    · rintro i x H2 hx ⟨sm, eD⟩
      obtain ⟨t, et, it⟩ := iF.get hx
      rw [List.getElem?_map] at et
      obtain ⟨f, ef', rfl⟩ := Option.map_eq_some_iff.mp et
      obtain ⟨b, pa, ca, ps, cs, rfl, eb, _, _, _, _, _⟩ := fn_inv (it.same sm)
      have hi := (List.getElem?_eq_some_iff.mp ef').1
      refine ⟨rfl, yes_if ⟨_, rfl, b, _, _, _, rfl, rfl, .inl (.inl eb), atI_nat (j := 0) rfl, _, eD, small1000 (by rw [List.length_map, List.length_map, List.length_take]; omega), Kx.Same.own sm hD _, ?_⟩⟩
      rw [upd_same, take_snoc ef', List.map_append, List.map_append]; rfl
    rintro H2 ⟨sm, eD⟩
    rw [lF, List.take_length] at eD
    refine fun fd hfd => ?_
    have s3 := same_upd hfd (.dK [])
    have nDf : D ≠ fd := ne_of_none eD hfd
    obtain ⟨f, ff, hf, rfl⟩ := find_at hz
    have hI3 := (hI.same sm).same s3
    refine ⟨_, rfl, _, rfl, _, fs, f.w, rfl, hI3, fun v' hs _ => ?_⟩
    obtain ⟨b, pa, ca, ps, cs, rfl, eb, _, _, ec, iC, _⟩ := fn_inv (hs f ff)
    have FG := G.fn f hf
    have lC := iC.len
    rw [List.length_map] at lC
    have words : ∀ {ks : List Str}, ks.Nodup → (∀ y ∈ ks, y ∈ fs.map Fn.w) → ks.length ≤ 12 := fun nd sub => by
      have := nodup_len nd sub
      rw [List.length_map] at this
      omega
    refine ⟨b, _, _, _, rfl, rfl, .inl (.inl eb), atI_nat (j := 5) rfl, ca, rfl, ⟨_, .inl (.inl ec)⟩, ?_⟩
    have tkF : ∀ {H' : Hp}, ExD fd (upd H2 fd (.dK [])) H' → Tk (upd H2 fd (.dK [])) H' := fun x => x.tk fun vs e => by rw [upd_same] at e; cases e
    refine for_tup (K := K) (a := ca) (xs := cs) (fun i σ H4 => ∃ (y4 y5 y6 : Option V) (kvs : List (Key × V)) (ks : List Str), σ = [some (.ref a), some (.str f.w), some (.ref D), some (.ref fd), y4, y5, y6, none] ∧ ExD fd (upd H2 fd (.dK [])) H4 ∧ H4 fd = some (.dK kvs) ∧ kvs.map (·.1) = ks.map Sum.inr ∧ ks.Nodup ∧ (∀ y, y ∈ ks ↔ y ∈ fs.map Fn.w ∧ ∃ c ∈ f.cls.take i, y ∈ nw c.body)) ?_ ?_ ?_ ?_
    · exact ⟨none, none, none, [], [], rfl, .refl _ _, upd_same, rfl, List.nodup_nil, fun y => by simp⟩
    · rintro i σ H4 _ ⟨_, _, _, _, _, _, x4, _⟩
      exact .inl (.inl (tkF x4 _ _ ec))
    · rintro i x σ H4 hx ⟨y4, y5, y6, kvs, ks, rfl, x4, ed, hk, nd, hm⟩
      obtain ⟨t, et, it⟩ := iC.get hx
      rw [List.getElem?_map] at et
      obtain ⟨c, hc, rfl⟩ := Option.map_eq_some_iff.mp et
      obtain ⟨xa, pa', ps', bv, rfl, exa, _, _, ib⟩ := cl_inv (it.tk (tkF x4))
      have CG := FG.cl c (List.mem_of_getElem? hc)
      refine ⟨xa, _, rfl, .inl (.inl exa), rfl, _, _, rfl, _, _, rfl, rfl, ?_⟩
      refine ⟨_, rfl, bv, c.body, rfl, ib, CG.body.1, (by have := CG.body.2.2; omega), fun la H5 xs ws s5 el hp hw lw => ⟨la, rfl, ⟨_, SqL.of el⟩, ?_⟩⟩
      have lx := pair_len hp
      have ed5 := s5 _ _ ed
      have nla : la ≠ fd := ne_of el ed5 (fun z => nomatch z)
      have ih : ∀ y, y ∈ ks → y ∈ fs.map Fn.w := fun y hy => ((hm y).mp hy).1
      refine for_list (K := K) (a := la) (xs := xs) (fun j σ H6 => ∃ (y6 : Option V) (kvs : List (Key × V)) (ks' : List Str), σ = [some (.ref a), some (.str f.w), some (.ref D), some (.ref fd), some (.ref pa'), some bv, y6, none] ∧ ExD fd H5 H6 ∧ H6 fd = some (.dK kvs) ∧ kvs.map (·.1) = ks'.map Sum.inr ∧ ks'.Nodup ∧ (∀ y, y ∈ ks' ↔ y ∈ ks ∨ y ∈ fs.map Fn.w ∧ y ∈ ws.take j)) ?_ ?_ ?_ ?_
      · exact ⟨y6, kvs, ks, rfl, .refl _ _, ed5, hk, nd, fun y => by simp⟩
      · rintro j σ H6 _ ⟨_, _, _, _, x6, _⟩
        exact SqL.of (x6 _ _ nla el)
      · rintro j x σ H6 hx2 ⟨y6', kvs', ks', rfl, x6, ed6, hk', nd', hm'⟩
        obtain ⟨w, ew, hd⟩ := Paired.get hp hx2
        have tk6 : Tk H5 H6 := x6.tk fun vs e => by rw [ed5] at e; cases e
        obtain ⟨na, r, rfl, en⟩ := hd.tk tk6
        have eD6 : H6 D = some (.lst ((fs.map Fn.w).map V.str)) := x6 _ _ nDf (s5 _ _ (x4 _ _ nDf (s3 _ _ eD)))
        have lks : ks'.length ≤ 12 := words nd' fun y hy => ((hm' y).mp hy).elim (ih y) fun z => z.1
        have lkv : kvs'.length = ks'.length := by
          have := congrArg List.length hk'
          rw [List.length_map, List.length_map] at this
          exact this
        refine ⟨_, rfl, na, _, _, _, rfl, rfl, .inl (.inl en), atI_nat (j := 0) rfl, _, rfl, D, _, rfl, .inl (SqL.of eD6), rfl, flat_str _, _, rfl, ?_⟩
        rw [inV_str]
        refine ite2 (fun c2 => ?_) (fun c2 => ?_)
        · have hw2 : w ∈ fs.map Fn.w := by simpa using c2
          refine ⟨_, rfl, _, rfl, na, _, _, _, rfl, rfl, .inl (.inl en), atI_nat (j := 0) rfl, fd, _, rfl, DPut.k (k := Sum.inr w) ed6 (small1000 (by omega)), some (.ref na), _, add1 ks' w, rfl, x6.trans (.set _), upd_same, put_keys hk', add1_nodup nd' w, fun y => ?_⟩
          rw [mem_add1, hm' y, take_snoc ew, List.mem_append, List.mem_singleton]
          constructor
          · rintro ((h | h) | rfl)
            · exact .inl h
            · exact .inr ⟨h.1, .inl h.2⟩
            · exact .inr ⟨hw2, .inr rfl⟩
          · rintro (h | ⟨h, h2 | h2⟩)
            · exact .inl (.inl h)
            · exact .inl (.inr ⟨h, h2⟩)
            · exact .inr h2
        · have hw2 : w ∉ fs.map Fn.w := by simpa using c2
          refine ⟨some (.ref na), kvs', ks', rfl, x6, ed6, hk', nd', fun y => ?_⟩
          rw [hm' y, take_snoc ew, List.mem_append, List.mem_singleton]
          constructor
          · rintro (h | ⟨h, h2⟩)
            · exact .inl h
            · exact .inr ⟨h, .inl h2⟩
          · rintro (h | ⟨h, h2 | h2⟩)
            · exact .inl h
            · exact .inr ⟨h, h2⟩
            · exact absurd (h2 ▸ h) hw2
      · rintro σ H6 ⟨y6', kvs', ks', rfl, x6, ed6, hk', nd', hm'⟩
        refine ⟨some (.ref pa'), some bv, y6', kvs', ks', rfl, (x4.trans (.of s5)).trans x6, ed6, hk', nd', fun y => ?_⟩
        rw [hm' y, hm y, lx, List.take_length, take_snoc hc, hw y]
        constructor
        · rintro (⟨h, e, he, h2⟩ | ⟨h, h2⟩)
          · exact ⟨h, e, List.mem_append_left _ he, h2⟩
          · exact ⟨h, c, by simp, h2⟩
        · rintro ⟨h, e, he, h2⟩
          rcases List.mem_append.mp he with he | he
          · exact .inl ⟨h, e, he, h2⟩
          · rw [List.mem_singleton.mp he] at h2
            exact .inr ⟨h, h2⟩
    · rintro σ H4 ⟨y4, y5, y6, kvs, ks, rfl, x4, ed, hk, nd, hm⟩
      rw [lC, List.take_length] at hm
      have lks := words nd fun y hy => ((hm y).mp hy).1
      refine ⟨_, rfl, fd, kvs, ks, rfl, .inl ed, hk, by omega, fun ys p hys srt hp => ⟨p, _, rfl, .inl ⟨SqL.of upd_same, fun l hl => ?_⟩⟩⟩
      have s5 := same_upd hp (.lst (ys.map V.str))
      have s6 := same_upd hl (.tup (ys.map V.str))
      have fre : H fd = none := sm.free hfd
      have sAll : Same H H4 := fun b o e => x4 _ _ (ne_of_none e fre) (s3 _ _ (sm _ _ e))
      refine q l _ ys ((sAll.trans s5).trans s6) upd_same (hys.nodup_iff.mpr nd) srt fun y => ?_
      rw [hys.mem_iff, hm y, ← call_iff G.nd hf]
end
end Kx
namespace Kx
open PySem PySem.Spec PyProof.Rows L2
section
variable {P : Program} {w : World} {K : PySem.W.Frag} {mg : Str → Option Value} {base : Heap}
set_option pp.maxSteps 1500
/-- the list at q: what z reaches -/
def RL (fs : List Fn) (H : Hp) (q : Addr) (z : Str) : Prop := ∃ xs : List Str, H q = some (.lst (xs.map V.str)) ∧ xs.Nodup ∧ ∀ y, y ∈ xs ↔ Reach fs z y
theorem RL.same {fs : List Fn} {H H' : Hp} {q : Addr} {z : Str} (s : Same H H') (r : RL fs H q z) : RL fs H' q z := by
  obtain ⟨xs, e, h⟩ := r
  exact ⟨xs, s _ _ e, h⟩
theorem reach_few {fs : List Fn} (G : ProgG fs) {xs : List Str} (nd : xs.Nodup) (h : ∀ x ∈ xs, x ∈ fs.map Fn.w) : xs.length ≤ 12 := by
  have := nodup_len nd h
  have := G.len
  rw [List.length_map] at *
  omega
def spReached : Sp := fun vs H Q _ => ∃ v fs z, vs = [v, .str z] ∧ Is H v (progPV fs) ∧ ProgG fs ∧ z ∈ fs.map Fn.w ∧ ∀ q H', Same H H' → H q = none → RL fs H' q z → Q (.ref q) H'
theorem ok_reached_from (T : Txt K mg) (G_calls_of : FnOk P w K mg base CX0 2 T.a_calls_of T.d_calls_of ["program", "word"] spCalls) : FnOk P w K mg base CX0 3 T.a_reached_from T.d_reached_from ["program", "word"] spReached := by
  refine T.F_reached_from.ok sc_reached_from (fun vs H Q E h => ?_) (fun cdv A outer s H vs Q E hr h => ?_)
  · obtain ⟨v, fs, z, rfl, _⟩ := h; rfl
  · obtain ⟨v, fs, z, rfl, hI, G, hz, q⟩ := h
    have hr_calls_of := hr
    refine ⟨_, (pss_cons (ps_set (i := 2) sc_reached_from.nd rfl (Or.inr rfl) (pe_callTy call_list_of (by rfl) T.z_list (by decide +kernel) (pa_cons (pe_call G_calls_of hr_calls_of rfl T.m_calls_of T.F_calls_of.kp T.b_calls_of .nil pass0 (pa_cons (pv 0) (pa_cons (pv 1) pa_nil))) pa_nil)))
    (pss_cons (ps_set (i := 3) sc_reached_from.nd rfl (Or.inl rfl) pe_int)
    (pss_cons (ps_while PassesOwn.never (pt_cmpR op_lt (pv 3) (pe_callB call_len_seq (by rfl) T.z_len (by decide +kernel) (pa_cons (pv 2) pa_nil)) (nomark _))
    (pss_cons (ps_expr (pe_bm PySem.F.plainAttrs_list PySem.F.slot_list_extend PySem.F.type_list_extend mt_extend (pv 2) (pa_cons (pe_lc (own := [("other", 4)]) (g := (gName 4)) rfl sc_reached_from.nd (pi_tup (pe_call G_calls_of hr_calls_of rfl T.m_calls_of T.F_calls_of.kp T.b_calls_of .nil pass0 (pa_cons (pv 0) (pa_cons (pe_ix ix_list (pv 2) (pv 3) (fun _ _ => rfl)) pa_nil)))) (blkOk_by (own := [("other", 4)]) (N := ["program", "word", "found", "at", "other"]) (sc := defScope s_reached_from) (by decide +kernel)) (fun _ _ _ _ _ => (pg_name (i := 4) sc_reached_from.nd rfl (Or.inl rfl))) (fun _ _ _ _ _ => pts_one (pt_cmpR (notInSeqK (K := K)) (pv 4) (pv 2) (by rfl))) (fun _ _ _ _ _ => (pv 4))) pa_nil)))
    (pss_one (ps_aug (i := 3) sc_reached_from.nd rfl (Or.inl rfl) pe_int ip_add))))
    (pss_one (ps_ret (pv 2)))))), ?_⟩
    refine ⟨_, rfl, _, rfl, v, fs, z, rfl, hI, G, hz, fun p H1 ys s1 e1 nd1 _ c1 => ⟨p, _, rfl, .inr (.inl (.inl e1)), fun fa hfa => ?_⟩⟩
    have s2 := same_upd hfa (.lst (ys.map V.str))
    have s12 := s1.trans s2
    have fra : H fa = none := s1.free hfa
    refine ⟨fun m σ H2 => ∃ (i : Nat) (xs : List Str), σ = [some v, some (.str z), some (.ref fa), some (.int (i : Int)), none] ∧ Same H H2 ∧ H2 fa = some (.lst (xs.map V.str)) ∧ xs.Nodup ∧ (∀ x ∈ xs, Reach fs z x) ∧ (∀ y, Call fs z y → y ∈ xs) ∧ (∀ j x, j < i → xs[j]? = some x → ∀ y, Call fs x y → y ∈ xs) ∧ i ≤ xs.length ∧ m + i = 12, ⟨12, 0, ys, rfl, s12, upd_same, nd1, fun x hx => .one ((c1 x).mp hx), fun y hy => (c1 y).mpr hy, fun j x h => by omega, by omega, rfl⟩, ?_⟩
    rintro m σ H2 ⟨i, xs, rfl, sm, ef, nd, hR, h0, hc, hi, hm⟩
    have x4 := reach_few G nd fun x hx => reach_word (hR x hx)
    refine ⟨_, rfl, _, rfl, fa, _, rfl, .inl (SqL.of ef), _, _, rfl, rfl, _, rfl, ite2 (fun c => ?_) (fun c => ?_)⟩
    case refine_2 =>
      have ge : xs.length ≤ i := by
        rw [List.length_map] at c
        have := of_decide_eq_false (Bool.eq_false_iff.mpr c)
        omega
      refine ⟨_, rfl, q fa H2 sm fra ⟨xs, ef, nd, fun y => ⟨hR y, reach_in h0 fun x hx y hy => ?_⟩⟩⟩
      obtain ⟨j, hj, ej⟩ := List.getElem_of_mem hx
      exact hc j x (by omega) (by rw [List.getElem?_eq_getElem hj, ej]) y hy
    have lt : i < xs.length := by
      rw [List.length_map] at c
      have := of_decide_eq_true c
      omega
    have ex : xs[i]? = some xs[i] := List.getElem?_eq_getElem lt
    generalize xs[i] = x at ex
    have hx := List.mem_of_getElem? ex
    refine ⟨fun σ' H' => ∃ m', m' < m ∧ ∃ (i : Nat) (xs : List Str), σ' = [some v, some (.str z), some (.ref fa), some (.int (i : Int)), none] ∧ Same H H' ∧ H' fa = some (.lst (xs.map V.str)) ∧ xs.Nodup ∧ (∀ x ∈ xs, Reach fs z x) ∧ (∀ y, Call fs z y → y ∈ xs) ∧ (∀ j x, j < i → xs[j]? = some x → ∀ y, Call fs x y → y ∈ xs) ∧ i ≤ xs.length ∧ m' + i = 12, fun σ' H' z => z, ?_⟩
    refine ⟨_, rfl, .inl ⟨rfl, _, SqL.of ef⟩, _, rfl, _, rfl, _, rfl, fa, _, _, _, rfl, rfl, SqL.of ef, atI_nat (j := i) (by rw [List.getElem?_map, ex] <;> rfl), v, fs, x, rfl, hI.same sm, G, reach_word (hR x hx), fun p2 H3 ys2 s3 e3 nd3 _ c3 => ⟨p2, rfl, ⟨_, .inl (.inl e3)⟩, fun D hD => ?_⟩⟩
    have ef3 := s3 _ _ ef
    refine lc_tup (K := K) (a := p2) (xs := ys2.map V.str) (fun j H4 => Same H3 H4 ∧ H4 D = some (.lst (((ys2.take j).filter fun y => decide (y ∉ xs)).map V.str))) ?_ ?_ ?_ ?_
    · exact ⟨same_upd hD _, upd_same⟩
    · exact fun j H4 _ ⟨s4, _⟩ => .inl (.inl (s4 _ _ e3))
    · intro j x' H4 hx' ⟨s4, eD⟩
      rw [List.getElem?_map] at hx'
      obtain ⟨y, ey, rfl⟩ := Option.map_eq_some_iff.mp hx'
      have y4 := reach_few G nd3 fun y hy => ((c3 y).mp hy).1
      refine ⟨rfl, _, rfl, _, rfl, fa, _, rfl, .inl (SqL.of (s4 _ _ ef3)), rfl, flat_str _, _, rfl, ?_⟩
      rw [inV_str]
      refine ite2 (fun c2 => ?_) (fun c2 => ?_)
      · have nz : y ∉ xs := by simpa using c2
        refine ⟨_, rfl, _, eD, ?_, Kx.Same.own s4 hD _, ?_⟩
        · have l1 := List.length_filter_le (fun y => decide (y ∉ xs)) (ys2.take j)
          rw [List.length_take] at l1
          rw [List.length_map]
          exact small1000 (by omega)
        · rw [upd_same, take_snoc ey, List.filter_append, List.map_append]
          simp [nz]
      · have nz : y ∈ xs := by simpa using c2
        refine ⟨s4, ?_⟩
        rw [eD, take_snoc ey, List.filter_append]
        simp [nz]
    · rintro H4 ⟨s4, eD⟩
      rw [List.length_map, List.take_length] at eD
      have y4 := reach_few G nd3 fun y hy => ((c3 y).mp hy).1
      refine ⟨fa, D, _, _, rfl, rfl, s4 _ _ ef3, eD, ?_, ?_⟩
      · have l1 := List.length_filter_le (fun y => decide (y ∉ xs)) ys2
        rw [List.length_map, List.length_map]
        exact Nat.le_of_lt (small1000 (by omega))
      · refine ⟨_, rfl, _, _, rfl, rfl, m - 1, by omega, i + 1, xs ++ ys2.filter (fun y => decide (y ∉ xs)), ?_, Kx.Same.own ((sm.trans s3).trans s4) fra _, by rw [upd_same, List.map_append], ?_, fun y hy => ?_, fun y hy => List.mem_append_left _ (h0 y hy), fun j x' hj e y hy => ?_, by rw [List.length_append]; omega, by omega⟩
        · show [some v, some (V.str z), some (V.ref fa), some (V.int ((i : Int) + 1)), none] = _
          rw [show (i : Int) + 1 = ((i + 1 : Nat) : Int) by omega]
        · refine List.nodup_append.mpr ⟨nd, nd3.filter _, fun a ha b hb e => ?_⟩
          have := (List.mem_filter.mp hb).2
          rw [← e] at this
          simp [ha] at this
        · rcases List.mem_append.mp hy with h | h
          · exact hR y h
          · exact .more (hR x hx) ((c3 y).mp (List.mem_filter.mp h).1)
        · rw [List.getElem?_append_left (by omega)] at e
          by_cases ji : j < i
          · exact List.mem_append_left _ (hc j x' ji e y hy)
          · have : j = i := by omega
            subst this
            rw [ex] at e
            cases e
            by_cases yx : y ∈ xs
            · exact List.mem_append_left _ yx
            · exact List.mem_append_right _ (List.mem_filter.mpr ⟨(c3 y).mpr hy, by simp [yx]⟩)
theorem lock_get {H : Hp} {f : Addr} {o : Obj} {kvs : List (Key × V)} (e : H f = some (.frz o (.dK kvs))) (z : Str) : DGet H f (.str z) (valV kvs (Sum.inr z)) := .inl ⟨kvs, Sum.inr z, .inr ⟨o, e⟩, rfl, rfl⟩
/-- in the group of z -/
def spGroup : Sp := fun vs H Q _ => ∃ v fs z, vs = [v, .str z] ∧ Is H v (progPV fs) ∧ ProgG fs ∧ z ∈ fs.map Fn.w ∧ ∀ p H' ys, Same H H' → H' p = some (.tup (ys.map V.str)) → ys.Nodup → sortedS ys = true → (∀ y, y ∈ ys ↔ InG fs z y) → Q (.ref p) H'
theorem ok_group_of (T : Txt K mg) (G_reached_from : FnOk P w K mg base CX0 3 T.a_reached_from T.d_reached_from ["program", "word"] spReached) : FnOk P w K mg base CX0 4 T.a_group_of T.d_group_of ["program", "word"] spGroup := by
  refine T.F_group_of.ok sc_group_of (fun vs H Q E h => ?_) (fun cdv A outer s H vs Q E hr h => ?_)
  · obtain ⟨v, fs, z, rfl, _⟩ := h; rfl
  · obtain ⟨v, fs, z, rfl, hI, G, hz, q⟩ := h
    have hr_reached_from := hr
    have hu := hu_of hr
    refine ⟨_, (pss_cons (ps_set (i := 2) sc_group_of.nd rfl (Or.inr rfl) (pe_dc (own := [("function", 4)]) (g := gName 4) (tt := tYes) rfl sc_group_of.nd (pi_tup (pe_ix ix_tup (pv 0) pe_int (fun _ _ => rfl))) (blkOk_by (own := [("function", 4)]) (N := ["program", "word", "reached", "group", "function", "other"]) (sc := defScope s_group_of) (by decide +kernel)) (fun _ _ _ _ _ => pg_name (i := 4) sc_group_of.nd rfl (Or.inl rfl)) (fun _ _ _ _ _ => pts_nil) (fun _ _ _ _ _ => (pe_ix (ixTK (K := K)) (pv 4) pe_int (fun _ _ => rfl))) (fun _ _ _ _ _ => (pe_call G_reached_from hr_reached_from rfl T.m_reached_from T.F_reached_from.kp T.b_reached_from .nil pass0 (pa_cons (pv 0) (pa_cons (pe_ix (ixTK (K := K)) (pv 4) pe_int (fun _ _ => rfl)) pa_nil))))))
    (pss_cons (ps_lock (ps_setLc (i := 3) (own := [("other", 5)]) (g := (gName 5)) rfl sc_group_of.nd rfl rfl (sw_true rfl rfl rfl (by decide +kernel)) (pi_keys (pv 2)) (blkOk_by (own := [("other", 5)]) (N := ["program", "word", "reached", "group", "function", "other"]) (sc := defScope s_group_of) (by decide +kernel)) (fun _ _ _ _ _ => (pg_name (i := 5) sc_group_of.nd rfl (Or.inl rfl))) (fun _ _ _ _ _ => pts_one (PW.pt (pw_or (pt_cmpR op_eq (pv 5) (pv 1) (nomark _)) (pw_or1 (PW.pt (pw_and (pt_cmpR (inSeqK (K := K)) (pv 5) (pe_dget hu (pv 2) (pv 1) (fun _ _ => rfl)) (by rfl)) (pw_and1 (pt_cmpR (inSeqK (K := K)) (pv 1) (pe_dget hu (pv 2) (pv 5) (fun _ _ => rfl)) (by rfl))))))))) (fun _ _ _ _ _ => (pv 5))))
    (pss_one (ps_ret (pe_callTy call_tuple_of (by rfl) T.z_tuple (by decide +kernel) (pa_cons (pe_callB cr_sortedS (by rfl) T.z_sorted (by decide +kernel) (pa_cons (pv 3) pa_nil)) pa_nil)))))), ?_⟩
    obtain ⟨a, fa, vs, rfl, ea, ef, iF⟩ := prog_inv hI
    have lF := iF.len
    rw [List.length_map] at lF
    have l4 := G.len
    refine ⟨_, rfl, a, _, _, _, rfl, rfl, .inl (.inl ea), atI_nat (j := 1) rfl, fa, rfl, ⟨_, .inl (.inl ef)⟩, fun D hD => ?_⟩
    refine dc_tup (K := K) (a := fa) (xs := vs) (fun i H2 => ∃ kvs : List (Key × V), Same H H2 ∧ H2 D = some (.dK kvs) ∧ kvs.map (·.1) = ((fs.take i).map Fn.w).map Sum.inr ∧ ∀ y ∈ (fs.take i).map Fn.w, ∃ r, valV kvs (Sum.inr y) = some (.ref r) ∧ RL fs H2 r y) ?_ ?_ ?_ ?_
    · exact ⟨[], same_upd hD _, upd_same, rfl, fun y h => by simp at h⟩
    · exact fun i H2 _ ⟨_, sm, _⟩ => .inl (.inl (sm _ _ ef))
    · rintro i x H2 hx ⟨kvs, sm, eD, hk, hv⟩
      obtain ⟨t, et, it⟩ := iF.get hx
      rw [List.getElem?_map] at et
      obtain ⟨f, ef', rfl⟩ := Option.map_eq_some_iff.mp et
      obtain ⟨b, pa, ca, ps, cs, rfl, eb, _, _, _, _, _⟩ := fn_inv (it.same sm)
      have hi := (List.getElem?_eq_some_iff.mp ef').1
      have hf := List.mem_of_getElem? ef'
      have hw : f.w ∈ fs.map Fn.w := List.mem_map.mpr ⟨f, hf, rfl⟩
      refine ⟨rfl, yes_if ⟨_, rfl, b, _, _, _, rfl, rfl, .inl (.inl eb), atI_nat (j := 0) rfl, _, rfl, _, rfl, b, _, _, _, rfl, rfl, .inl (.inl eb), atI_nat (j := 0) rfl, .ref a, fs, f.w, rfl, hI.same sm, G, hw, fun r H3 s3 hr0 rl => ⟨kvs, Sum.inr f.w, rfl, s3 _ _ eD, ?_, _, Kx.Same.own (sm.trans s3) hD _, upd_same, ?_, fun y hy => ?_⟩⟩⟩
      · have := congrArg List.length hk
        rw [List.length_map, List.length_map, List.length_map, List.length_take] at this
        exact small1000 (by omega)
      · have fresh : f.w ∉ (fs.take i).map Fn.w := fun h => by
          have nd := G.nd
          have e : fs = fs.take i ++ f :: fs.drop (i + 1) := by
            have eg := (List.getElem?_eq_some_iff.mp ef').2
            rw [← eg, ← List.drop_eq_getElem_cons hi, List.take_append_drop]
          rw [e, List.map_append, List.map_cons] at nd
          exact (List.nodup_append.mp nd).2.2 _ h _ (List.mem_cons_self ..) rfl
        rw [put_keys hk, take_snoc ef', List.map_append]
        unfold add1
        rw [if_neg fresh]
        rfl
      · have nr : ∀ {r : Addr} {y : Str}, RL fs H3 r y → RL fs (upd H3 D (.dK (putK kvs (Sum.inr f.w) (.ref r)))) r y := fun {r y} ⟨xs, e, h⟩ => ⟨xs, by rw [upd_ne (ne_of e (s3 _ _ eD) (fun z => nomatch z))]; exact e, h⟩
        have nr2 : ∀ {r' : Addr} {y : Str}, RL fs H3 r' y → RL fs (upd H3 D (.dK (putK kvs (Sum.inr f.w) (.ref r)))) r' y := fun {r' y} ⟨xs, e, h⟩ => ⟨xs, by rw [upd_ne (ne_of e (s3 _ _ eD) (fun z => nomatch z))]; exact e, h⟩
        rw [valV_put]
        by_cases e : y = f.w
        · subst e
          exact ⟨r, by rw [if_pos rfl], nr2 rl⟩
        · rw [if_neg fun h => e (Sum.inr.inj h)]
          rw [take_snoc ef', List.map_append] at hy
          rcases List.mem_append.mp hy with h | h
          · obtain ⟨r2, e2, rl2⟩ := hv y h
            exact ⟨r2, e2, nr2 (rl2.same s3)⟩
          · exact absurd (by simpa using h) e
    rintro H2 ⟨kvs, sm, eD, hk, hv⟩
    rw [lF, List.take_length] at hk hv
    have lk : kvs.length = fs.length := by
      have := congrArg List.length hk
      rwa [List.length_map, List.length_map, List.length_map] at this
    have fre : H D = none := hD
    refine ⟨D, _, eD, trivial, fun od => ?_⟩
    refine ⟨_, rfl, D, od, rfl, .inl ⟨kvs, upd_same, fun gl hgl => ?_⟩⟩
    have ngD : gl ≠ D := fun e => by rw [e, upd_same] at hgl; cases hgl
    have fg : H2 gl = none := by rw [upd_ne ngD] at hgl; exact hgl
    have key : ∀ {k : Nat} {kk : Key} {v : V}, kvs[k]? = some (kk, v) → ∃ y, (fs.map Fn.w)[k]? = some y ∧ kk = Sum.inr y := fun {k kk v} e => by
      have e2 : (kvs.map (·.1))[k]? = some kk := by rw [List.getElem?_map, e]; rfl
      rw [hk, List.getElem?_map] at e2
      obtain ⟨y, ey, e3⟩ := Option.map_eq_some_iff.mp e2
      exact ⟨y, ey, e3.symm⟩
    refine L2.lc_it walk_keys (fun k H6 => ExD D H2 H6 ∧ H6 D = some (.frz od (.dK kvs)) ∧ ∃ ys : List Str, H6 gl = some (.lst (ys.map V.str)) ∧ ys.Nodup ∧ ∀ y, y ∈ ys ↔ y ∈ (fs.map Fn.w).take k ∧ InG fs z y) ?_ ?_ ?_ ?_
    · refine ⟨fun b o nb e => ?_, by rw [upd_ne ngD.symm, upd_same], [], upd_same, List.nodup_nil, fun y => by simp⟩
      rw [upd_ne (ne_of_none e fg), upd_ne nb]; exact e
    · exact fun k H6 _ ⟨_, e, _⟩ => e
    · rintro k x H6 H6' hkk ⟨x6, e6, ys, eg, nd, hm⟩ ⟨eH, kk, v, ekv, ex⟩
      subst eH ex
      obtain ⟨y, ey, rfl⟩ := key ekv
      have hy := List.mem_of_getElem? ey
      obtain ⟨rz, ez, lz, erz, _, mz⟩ := hv z hz
      obtain ⟨ry, e2, ly, ery, _, my⟩ := hv y hy
      have nz : rz ≠ D := ne_of erz eD (fun z => nomatch z)
      have ny : ry ≠ D := ne_of ery eD (fun z => nomatch z)
      have erz6 := x6 _ _ nz erz
      have ery6 := x6 _ _ ny ery
      have gz : DGet H6' D (.str z) (some (.ref rz)) := ez ▸ lock_get e6 z
      have gy : DGet H6' D (.str y) (some (.ref ry)) := e2 ▸ lock_get e6 y
      have y4 := reach_few G nd fun x hx => List.mem_of_mem_take ((hm x).mp hx).1
      have ny2 : y ∉ ys := fun h => by
        have h2 := ((hm y).mp h).1
        have nd2 := G.nd
        obtain ⟨hi, eg'⟩ := List.getElem?_eq_some_iff.mp ey
        have e : fs.map Fn.w = (fs.map Fn.w).take k ++ y :: (fs.map Fn.w).drop (k + 1) := by
          rw [← eg', ← List.drop_eq_getElem_cons hi, List.take_append_drop]
        rw [e] at nd2
        exact (List.nodup_append.mp nd2).2.2 _ h2 _ (List.mem_cons_self ..) rfl
      have yes : InG fs z y → ∃ acc, H6' gl = some (.lst acc) ∧ acc.length < sizeLine ∧ (ExD D H2 (upd H6' gl (.lst (acc ++ [.str y]))) ∧ (upd H6' gl (.lst (acc ++ [.str y]))) D = some (.frz od (.dK kvs)) ∧ ∃ ys : List Str, (upd H6' gl (.lst (acc ++ [.str y]))) gl = some (.lst (ys.map V.str)) ∧ ys.Nodup ∧ ∀ y, y ∈ ys ↔ y ∈ (fs.map Fn.w).take (k + 1) ∧ InG fs z y) := fun hin => by
        refine ⟨_, eg, small1000 (by rw [List.length_map]; omega), fun b o nb e => ?_, by rw [upd_ne ngD.symm]; exact e6, ys ++ [y], by rw [upd_same, List.map_append]; rfl, ?_, fun w => ?_⟩
        · rw [upd_ne (ne_of_none e fg)]; exact x6 _ _ nb e
        · refine List.nodup_append.mpr ⟨nd, by simp, fun a ha b hb e => ?_⟩
          rw [List.mem_singleton.mp hb] at e
          exact ny2 (e ▸ ha)
        · rw [List.mem_append, hm w, take_snoc ey, List.mem_append, List.mem_singleton]
          constructor
          · rintro (⟨h, h2⟩ | rfl)
            · exact ⟨.inl h, h2⟩
            · exact ⟨.inr rfl, hin⟩
          · rintro ⟨h | h, h2⟩
            · exact .inl ⟨h, h2⟩
            · exact .inr h
      have no : ¬ InG fs z y → (ExD D H2 H6' ∧ H6' D = some (.frz od (.dK kvs)) ∧ ∃ ys : List Str, H6' gl = some (.lst (ys.map V.str)) ∧ ys.Nodup ∧ ∀ y, y ∈ ys ↔ y ∈ (fs.map Fn.w).take (k + 1) ∧ InG fs z y) := fun hin => by
        refine ⟨x6, e6, ys, eg, nd, fun w => ?_⟩
        rw [hm w, take_snoc ey, List.mem_append, List.mem_singleton]
        constructor
        · rintro ⟨h, h2⟩
          exact ⟨.inl h, h2⟩
        · rintro ⟨h | rfl, h2⟩
          · exact ⟨h, h2⟩
          · exact absurd h2 hin
      refine ⟨rfl, _, rfl, _, rfl, rfl, _, rfl, ite2 (fun c => ?_) (fun c => ?_)⟩
      · have e : y = z := V.str.inj (of_decide_eq_true c)
        exact iteT ⟨_, rfl, yes (.inl e)⟩
      · have ne : y ≠ z := fun e => c (by rw [e]; exact decide_eq_true rfl)
        refine ⟨_, rfl, _, rfl, _, rfl, D, _, rfl, gz, rz, _, rfl, .inl (SqL.of erz6), rfl, flat_str _, _, rfl, ?_⟩
        rw [show inV (kV (Sum.inr y)) (lz.map V.str) = decide (y ∈ lz) from inV_str y lz]
        refine ite2 (fun c1 => ?_) (fun c1 => ?_)
        · have h1 : y ∈ lz := by simpa using c1
          refine ⟨_, rfl, _, rfl, _, rfl, D, _, rfl, gy, ry, _, rfl, .inl (SqL.of ery6), rfl, flat_str _, _, rfl, ?_⟩
          rw [inV_str]
          refine ite2 (fun c2 => ?_) (fun c2 => ?_)
          · have h2 : z ∈ ly := by simpa using c2
            exact ⟨_, rfl, yes (.inr ⟨(mz y).mp h1, (my z).mp h2⟩)⟩
          · have h2 : z ∉ ly := by simpa using c2
            exact no fun h => h.elim ne fun h => h2 ((my z).mpr h.2)
        · have h1 : y ∉ lz := by simpa using c1
          exact no fun h => h.elim ne fun h => h1 ((mz y).mpr h.1)
    · rintro H6 ⟨x6, e6, ys, eg, nd, hm⟩
      have lw : kvs.length = (fs.map Fn.w).length := by rw [List.length_map]; exact lk
      rw [lw, List.take_length] at hm
      have y4 := reach_few G nd fun x hx => ((hm x).mp hx).1
      have sU : Same H (upd H6 D (.dK kvs)) := fun b o e => by
        have nb := ne_of_none e fre
        rw [upd_ne nb]; exact x6 _ _ nb (sm _ _ e)
      refine ⟨e6, ?_⟩
      refine ⟨_, rfl, gl, ys, rfl, SqL.of (show (upd H6 D (.dK kvs)) gl = _ by rw [upd_ne ngD]; exact eg), by omega, fun ys' p hp srt hpn => ⟨p, _, rfl, .inl ⟨SqL.of upd_same, fun l hl => ?_⟩⟩⟩
      refine q l _ ys' ((sU.trans (same_upd hpn _)).trans (same_upd hl _)) upd_same (hp.nodup_iff.mpr nd) srt fun y => ?_
      rw [hp.mem_iff, hm y]
      constructor
      · exact fun h => h.2
      · refine fun h => ⟨?_, h⟩
        rcases h with rfl | h
        · exact hz
        · exact reach_word h.1
end
end Kx
namespace Kx
open PySem PySem.Spec PyProof.Rows L2
section
variable {P : Program} {w : World} {K : PySem.W.Frag} {mg : Str → Option Value} {base : Heap}
set_option pp.maxSteps 1500
def spLCallsN : Sp := fun vs H Q _ => ∃ v fs bv t, vs = [v, bv] ∧ Is H v (progPV fs) ∧ ProgG fs ∧ Is H bv t ∧ Tm t ∧ cnt t ≤ 100 ∧ ∀ a H' xs ws, Same H H' → H a = none → H' a = some (.lst xs) → IsL H' xs ws → (∀ w, w ∈ ws ↔ w ∈ nd t ∧ wd w ∈ fs.map Fn.w) → ws.length ≤ 100 → Q (.ref a) H'
theorem ok_law_calls (T : Txt K mg)  : FnOk P w K mg base CX0 1 T.a_law_calls T.d_law_calls ["program", "body"] spLCallsN := by
  refine T.F_law_calls.ok sc_law_calls (fun vs H Q E h => ?_) (fun cdv A outer s H vs Q E hr h => ?_)
  · obtain ⟨v, fs, bv, t, rfl, _⟩ := h; rfl
  · obtain ⟨v, fs, bv, t, rfl, hP, G, hI, hT, h100, q⟩ := h
    refine ⟨_, (pss_cons (ps_set (i := 2) sc_law_calls.nd rfl (Or.inl rfl) (pe_lst pa_nil))
    (pss_cons (ps_set (i := 3) sc_law_calls.nd rfl (Or.inl rfl) (pe_lst (pa_cons (pv 1) pa_nil)))
    (pss_cons (ps_setLc (i := 4) (own := [("row", 6)]) (g := (gName 6)) (tt := tYes) rfl sc_law_calls.nd rfl rfl (sw_true rfl rfl rfl (by decide +kernel)) (pi_tup (pe_ix ix_tup (pv 0) pe_int (fun _ _ => rfl))) (blkOk_by (own := [("row", 6)]) (N := ["program", "body", "found", "parts", "words", "part", "row"]) (sc := defScope s_law_calls) (by decide +kernel)) (fun _ _ _ _ _ => (pg_name (i := 6) sc_law_calls.nd rfl (Or.inl rfl))) (fun _ _ _ _ _ => pts_nil) (fun _ _ _ _ _ => (pe_ix (ixTK (K := K)) (pv 6) pe_int (fun _ _ => rfl))))
    (pss_cons (ps_while PassesOwn.never (pt_cmpR op_gt (pe_callB call_len_seq (by rfl) T.z_len (by decide +kernel) (pa_cons (pv 3) pa_nil)) pe_int (nomark _))
    (pss_cons (ps_set (i := 5) sc_law_calls.nd rfl (Or.inl rfl) (pe_bm0 PySem.F.plainAttrs_list PySem.F.slot_list_pop PySem.F.type_list_pop mt_pop (pv 3)))
    (pss_one (ps_if (pt_not (pt_val (pe_callB call_isi (by rfl) T.z_isinstance (by decide +kernel) (pa_cons (pv 5) (pa_cons (pe_bltn rfl T.z_str (by decide +kernel) (show RelV (V.ty "str") (Value.type "str") from rfl)) pa_nil))))) (Evl.pss_cut (ps_if (pt_cmpR op_in_seq (pe_ix ix_tup (pv 5) pe_int (fun _ _ => rfl)) (pv 4) (by rfl)) (pss_one (ps_expr (pe_bm PySem.F.plainAttrs_list PySem.F.slot_list_append PySem.F.type_list_append mt_append (pv 2) (pa_cons (pv 5) pa_nil)))) pss_nil)
    (pss_one (ps_set (i := 3) sc_law_calls.nd rfl (Or.inl rfl) (pe_op op_cat (pv 3) (pe_callTy call_list_of (by rfl) T.z_list (by decide +kernel) (pa_cons (pe_slice sl_tup (pv 5) (po_some pe_int) po_none) pa_nil)))))) pss_nil))))
    (pss_one (ps_ret (pv 2))))))), ?_⟩
    obtain ⟨a, ga, gs, rfl, eg, ef, iF⟩ := prog_inv hP
    have lF := iF.len
    rw [List.length_map] at lF
    have l4 := G.len
    refine ⟨(by show 0 ≤ sizeLine; decide), fun fa hf => ?_⟩
    refine ⟨_, rfl, (by show 1 ≤ sizeLine; decide), fun ta ht => ?_⟩
    have s1 := same_upd hf (.lst [])
    have s2 := same_upd ht (.lst [bv])
    have s12 := s1.trans s2
    have ft : H ta = none := s1.free ht
    have nft : fa ≠ ta := ne_of_none upd_same ht
    have efa : (upd (upd H fa (.lst [])) ta (.lst [bv])) fa = some (.lst []) := by rw [upd_ne nft, upd_same]
    have eta : (upd (upd H fa (.lst [])) ta (.lst [bv])) ta = some (.lst [bv]) := upd_same
    generalize upd (upd H fa (.lst [])) ta (.lst [bv]) = H0 at *
    refine ⟨_, rfl, a, _, _, _, rfl, rfl, .inl (.inl (s12 _ _ eg)), atI_nat (j := 1) rfl, ga, rfl, ⟨_, .inl (.inl (s12 _ _ ef))⟩, fun D hD => ?_⟩
    refine lc_tup (K := K) (a := ga) (xs := gs) (fun i H2 => Same H0 H2 ∧ H2 D = some (.lst (((fs.take i).map Fn.w).map V.str))) ?_ ?_ ?_ ?_
    · exact ⟨same_upd hD _, upd_same⟩
    · exact fun i H2 _ ⟨sm, _⟩ => .inl (.inl (sm _ _ (s12 _ _ ef)))
    · rintro i x H2 hx ⟨sm, eD⟩
      obtain ⟨u, et, it⟩ := iF.get hx
      rw [List.getElem?_map] at et
      obtain ⟨f, ef', rfl⟩ := Option.map_eq_some_iff.mp et
      obtain ⟨b, pa, ca, ps, cs, rfl, eb, _, _, _, _, _⟩ := fn_inv (it.same (s12.trans sm))
      have hi := (List.getElem?_eq_some_iff.mp ef').1
      refine ⟨rfl, yes_if ⟨_, rfl, b, _, _, _, rfl, rfl, .inl (.inl eb), atI_nat (j := 0) rfl, _, eD, small1000 (by rw [List.length_map, List.length_map, List.length_take]; omega), Kx.Same.own sm hD _, ?_⟩⟩
      rw [upd_same, take_snoc ef', List.map_append, List.map_append]; rfl
    rintro H1 ⟨sm1, eD⟩
    rw [lF, List.take_length] at eD
    have nDf : D ≠ fa := (ne_of_none efa hD).symm
    have nDt : D ≠ ta := (ne_of_none eta hD).symm
    have fD : H D = none := s12.free hD
    have sH1 := s12.trans sm1
    refine ⟨fun m σ H2 => ∃ (y5 : Option V) (pt : Addr) (vs : List V) (ts : List PV) (xs : List V) (ws : List PV), σ = [some (.ref a), some bv, some (.ref fa), some (.ref pt), some (.ref D), y5, none] ∧ Same H H2 ∧ H2 fa = some (.lst xs) ∧ H2 pt = some (.lst vs) ∧ H2 D = some (.lst ((fs.map Fn.w).map V.str)) ∧ H pt = none ∧ pt ≠ fa ∧ pt ≠ D ∧ IsL H2 vs ts ∧ (∀ x ∈ ts, Tm x) ∧ cntL ts = m ∧ IsL H2 xs ws ∧ ws.length + cntL ts ≤ 100 ∧ ∀ w, (w ∈ nd t ∧ wd w ∈ fs.map Fn.w) ↔ w ∈ ws ∨ (w ∈ ndL ts ∧ wd w ∈ fs.map Fn.w), ⟨cnt t, ?_⟩, ?_⟩
    · refine ⟨none, ta, [bv], [t], [], [], rfl, sH1, sm1 _ _ efa, sm1 _ _ eta, eD, ft, nft.symm, nDt.symm, .cons (hI.same sH1) .nil, fun x hx => by rw [List.mem_singleton.mp hx]; exact hT, by simp [cntL], .nil, ?_, fun w => by simp [ndL]⟩
      simp [cntL]; exact h100
    · intro m σ H2 ⟨y5, pt, vs, ts, xs, ws, es, sm, ef2, ep, eD2, fpt, npf, npD, hL, hTs, hm, hp, hb, hd⟩
      subst es
      have lxs := hp.len
      refine ⟨_, rfl, pt, _, rfl, .inl (SqL.of ep), _, _, rfl, rfl, _, rfl, ite2 (fun cv => ?_) (fun cv => ?_)⟩
      case refine_2 =>
        have hv : vs = [] := by cases vs with | nil => rfl | cons _ _ => simp at cv
        subst hv
        cases hL
        exact ⟨_, rfl, q fa H2 xs ws sm hf ef2 hp (fun w => by rw [hd w]; simp [ndL]) (by omega)⟩
      have hne : vs ≠ [] := by intro e; rw [e] at cv; simp at cv
      have hlast : vs[vs.length - 1]? = some (vs.getLast hne) := by
        rw [List.getLast_eq_getElem, List.getElem?_eq_getElem]
      obtain ⟨ts', y, ets, hy, hL'⟩ := hL.snoc_inv hlast hne
      have hlen := hL'.len
      have cts : cntL ts = cntL ts' + cnt y := by rw [ets, cntL_append]; simp [cntL]
      have cy := cnt_pos y
      refine ⟨fun σ' H' => ∃ m', m' < m ∧ ∃ (y5 : Option V) (pt : Addr) (vs : List V) (ts : List PV) (xs : List V) (ws : List PV), σ' = [some (.ref a), some bv, some (.ref fa), some (.ref pt), some (.ref D), y5, none] ∧ Same H H' ∧ H' fa = some (.lst xs) ∧ H' pt = some (.lst vs) ∧ H' D = some (.lst ((fs.map Fn.w).map V.str)) ∧ H pt = none ∧ pt ≠ fa ∧ pt ≠ D ∧ IsL H' vs ts ∧ (∀ x ∈ ts, Tm x) ∧ cntL ts = m' ∧ IsL H' xs ws ∧ ws.length + cntL ts ≤ 100 ∧ ∀ w, (w ∈ nd t ∧ wd w ∈ fs.map Fn.w) ↔ w ∈ ws ∨ (w ∈ ndL ts ∧ wd w ∈ fs.map Fn.w), fun σ' H' z => z, ?_⟩
      refine ⟨_, rfl, .inl ⟨rfl, _, SqL.of ep⟩, pt, vs, _, rfl, rfl, ep, hlast, ?_⟩
      have t3 : Tk H2 (upd H2 pt (.lst vs.dropLast)) := Tk.wr ⟨_, ep⟩
      have sm3 : Same H (upd H2 pt (.lst vs.dropLast)) := Kx.Same.own sm fpt _
      have hy3 := hy.tk t3
      have hL3 := hL'.tk t3
      have ef3 : (upd H2 pt (.lst vs.dropLast)) fa = some (.lst xs) := by rw [upd_ne npf.symm]; exact ef2
      have eD3 : (upd H2 pt (.lst vs.dropLast)) D = some (.lst ((fs.map Fn.w).map V.str)) := by rw [upd_ne npD.symm]; exact eD2
      have ep3 : (upd H2 pt (.lst vs.dropLast)) pt = some (.lst vs.dropLast) := upd_same
      have hp3 := hp.tk t3
      have yT : Tm y := hTs y (by rw [ets]; simp)
      have hTs' : ∀ x ∈ ts', Tm x := fun x hx => hTs x (by rw [ets]; exact List.mem_append_left _ hx)
      have hd3 : ∀ w, (w ∈ nd t ∧ wd w ∈ fs.map Fn.w) ↔ w ∈ ws ∨ ((w ∈ ndL ts' ∨ w ∈ nd y) ∧ wd w ∈ fs.map Fn.w) := fun w => by rw [hd w, ets, ndL_append]; simp [ndL]
      obtain ⟨u, ty, kt⟩ := hy3.ty (K := K)
      generalize upd H2 pt (.lst vs.dropLast) = H3 at *
      refine ⟨_, rfl, _, _, u, _, _, rfl, .ty _, ty, kit_str kt, _, rfl, ?_⟩
      cases y with
      | int i => exact absurd yT (by simp [Tm])
      | str z =>
        refine iteF ⟨cntL ts', by omega, _, pt, _, ts', xs, ws, rfl, sm3, ef3, ep3, eD3, fpt, npf, npD, hL3, hTs', rfl, hp3, by omega, fun w' => ?_⟩
        rw [hd3 w']; simp [nd]
      | tup l =>
        obtain ⟨b, w, vs2, r, ev, el, ea, hL2, hr2⟩ := tm_tup_inv hy3 yT rfl
        rw [ev]
        cases el
        rw [cnt_cons] at cts cy
        have hlen2 := hL2.len
        have cl := cntL_len r
        have cl2 := cntL_len ts'
        refine iteT ?_
        refine ⟨fun σ' H4 => ∃ (xs2 : List V) (ws2 : List PV), σ' = [some (.ref a), some bv, some (.ref fa), some (.ref pt), some (.ref D), some (.ref b), none] ∧ Same H H4 ∧ Tk H3 H4 ∧ H4 fa = some (.lst xs2) ∧ H4 pt = some (.lst vs.dropLast) ∧ H4 D = some (.lst ((fs.map Fn.w).map V.str)) ∧ IsL H4 xs2 ws2 ∧ ws2.length ≤ ws.length + 1 ∧ ∀ w', (w' ∈ nd t ∧ wd w' ∈ fs.map Fn.w) ↔ w' ∈ ws2 ∨ ((w' ∈ ndL ts' ∨ w' ∈ ndL r) ∧ wd w' ∈ fs.map Fn.w), ?_, ?_⟩
        · refine ⟨_, rfl, b, _, _, _, rfl, rfl, .inl (.inl ea), atI_nat (j := 0) rfl, _, rfl, D, _, rfl, .inl (SqL.of eD3), rfl, flat_str _, _, rfl, ?_⟩
          rw [inV_str]
          refine ite2 (fun c2 => ?_) (fun c2 => ?_)
          · have hw2 : w ∈ fs.map Fn.w := by simpa using c2
            refine ⟨_, rfl, .inl ⟨rfl, _, SqL.of ef3⟩, _, rfl, fa, xs, _, rfl, rfl, ef3, small1000 (by omega), xs ++ [.ref b], ws ++ [.tup (.str w :: r)], rfl, Kx.Same.own sm3 hf _, Tk.wr ⟨_, ef3⟩, upd_same, by rw [upd_ne npf]; exact ep3, by rw [upd_ne nDf]; exact eD3, (hp3.tk (Tk.wr ⟨_, ef3⟩)).append (.cons ((ev ▸ hy3).tk (Tk.wr ⟨_, ef3⟩)) .nil), by simp, fun w' => ?_⟩
            rw [hd3 w']
            simp only [nd, List.mem_append, List.mem_cons, List.not_mem_nil, or_false]
            constructor
            · rintro (h | ⟨h | h | h, h2⟩)
              · exact .inl (.inl h)
              · exact .inr ⟨.inl h, h2⟩
              · exact .inl (.inr h)
              · exact .inr ⟨.inr h, h2⟩
            · rintro ((h | h) | ⟨h | h, h2⟩)
              · exact .inl h
              · exact .inr ⟨.inr (.inl h), by rw [h]; exact hw2⟩
              · exact .inr ⟨.inl h, h2⟩
              · exact .inr ⟨.inr (.inr h), h2⟩
          · have hw2 : w ∉ fs.map Fn.w := by simpa using c2
            refine ⟨xs, ws, rfl, sm3, .refl _, ef3, ep3, eD3, hp3, by omega, fun w' => ?_⟩
            rw [hd3 w']
            simp only [nd, List.mem_cons]
            constructor
            · rintro (h | ⟨h | h | h, h2⟩)
              · exact .inl h
              · exact .inr ⟨.inl h, h2⟩
              · exact absurd (by rw [h] at h2; exact h2) hw2
              · exact .inr ⟨.inr h, h2⟩
            · rintro (h | ⟨h | h, h2⟩)
              · exact .inl h
              · exact .inr ⟨.inl h, h2⟩
              · exact .inr ⟨.inr (.inr h), h2⟩
        · rintro σ' H4 ⟨xs2, ws2, rfl, sm4, t4, ef4, ep4, eD4, hp4, lw4, hd4⟩
          refine ⟨_, rfl, _, rfl, _, rfl, b, _, rfl, .inl (.inl (t4 _ _ ea)), slice1, fun p hp5 => ?_⟩
          rw [cut1]
          have s5 := same_upd hp5 (.tup vs2)
          refine ⟨p, vs2, rfl, .inr (.inl (.inl upd_same)), fun l hl => ?_⟩
          have s6 := same_upd hl (.lst vs2)
          have s56 := s5.trans s6
          refine ⟨pt, l, vs.dropLast, vs2, rfl, rfl, s56 _ _ ep4, upd_same, Nat.le_of_lt (small1000 (by rw [hlen, hlen2]; omega)), fun l2 hl2 => ?_⟩
          have s7 := same_upd hl2 (.lst (vs.dropLast ++ vs2))
          have s57 := s56.trans s7
          have s4F := s57
          refine ⟨cntL (ts' ++ r), by rw [cntL_append]; omega, _, l2, _, ts' ++ r, xs2, ws2, rfl, sm4.trans s57, s57 _ _ ef4, upd_same, s57 _ _ eD4, sm4.free (s56.free hl2), (ne_of_none (s56 _ _ ef4) hl2).symm, (ne_of_none (s56 _ _ eD4) hl2).symm, ((hL3.tk t4).append (hL2.tk t4)).same s57, fun x hx => ?_, rfl, hp4.tk (.of s57), by rw [cntL_append]; omega, fun w' => ?_⟩
          · rcases List.mem_append.mp hx with h | h
            · exact hTs' x h
            · exact mem_TmL hr2 x h
          · rw [hd4 w', ndL_append, List.mem_append]
def spLCalls : Sp := fun vs H Q _ => ∃ v fs bv t, vs = [v, bv] ∧ Is H v (progPV fs) ∧ ProgG fs ∧ Is H bv t ∧ Tm t ∧ cnt t ≤ 100 ∧ ∀ a H' xs ws, Same H H' → H' a = some (.lst xs) → Paired (Hd H') xs ws → (∀ w, w ∈ ws ↔ w ∈ nw t ∧ w ∈ fs.map Fn.w) → ws.length ≤ 100 → Q (.ref a) H'
theorem lcalls_old {k : Nat} (T : Txt K mg) (F : FnOk P w K mg base CX0 k T.a_law_calls T.d_law_calls ["program", "body"] spLCallsN) : FnOk P w K mg base CX0 k T.a_law_calls T.d_law_calls ["program", "body"] spLCalls :=
  FnOk.weak F fun vs H Q E ⟨v, fs, bv, t, e, i, G, ib, tm, c, q⟩ => ⟨v, fs, bv, t, e, i, G, ib, tm, c, fun a H' xs ns s _ ea il m l => q a H' xs (ns.map wd) s ea (hds_of il fun n hn => nd_inv ((m n).mp hn).1) (fun w => by
    rw [nw_eq, List.mem_map, List.mem_map]
    constructor
    · rintro ⟨n, hn, rfl⟩
      exact ⟨⟨n, ((m n).mp hn).1, rfl⟩, ((m n).mp hn).2⟩
    · rintro ⟨⟨n, hn, rfl⟩, h⟩
      exact ⟨n, (m n).mpr ⟨hn, h⟩, rfl⟩) (by rw [List.length_map]; exact l)⟩
end
end Kx
namespace Kx
open PySem PySem.Spec PyProof.Rows L2
section
variable {P : Program} {w : World} {K : PySem.W.Frag} {mg : Str → Option Value} {base : Heap}
set_option pp.maxSteps 1500
def spLNext : Sp := fun vs H Q _ => ∃ v fs z, vs = [v, .str z] ∧ Is H v (progPV fs) ∧ ProgG fs ∧ z ∈ fs.map Fn.w ∧ ∀ a H' (ys : List Str), Same H H' → H a = none → H' a = some (.lst (ys.map V.str)) → (∀ y, y ∈ ys ↔ Call fs z y) → ys.length ≤ 200 → Q (.ref a) H'
theorem ok_law_next (T : Txt K mg) (G_law_calls : FnOk P w K mg base CX0 1 T.a_law_calls T.d_law_calls ["program", "body"] spLCalls) : FnOk P w K mg base CX0 2 T.a_law_next T.d_law_next ["program", "word"] spLNext := by
  refine T.F_law_next.ok sc_law_next (fun vs H Q E h => ?_) (fun cdv A outer s H vs Q E hr h => ?_)
  · obtain ⟨v, fs, z, rfl, _⟩ := h; rfl
  · obtain ⟨v, fs, z, rfl, hI, G, hz, q⟩ := h
    have hr_law_calls := hr
    refine ⟨_, (pss_cons (ps_set (i := 2) sc_law_next.nd rfl (Or.inl rfl) (pe_ix ix_list (pe_lc (own := [("one", 6)]) (g := (gName 6)) rfl sc_law_next.nd (pi_tup (pe_ix ix_tup (pv 0) pe_int (fun _ _ => rfl))) (blkOk_by (own := [("one", 6)]) (N := ["program", "word", "row", "found", "patterns", "body", "one", "call"]) (sc := defScope s_law_next) (by decide +kernel)) (fun _ _ _ _ _ => (pg_name (i := 6) sc_law_next.nd rfl (Or.inl rfl))) (fun _ _ _ _ _ => pts_one (pt_cmpR op_eq (pe_ix (ixTK (K := K)) (pv 6) pe_int (fun _ _ => rfl)) (pv 1) (nomark _))) (fun _ _ _ _ _ => (pv 6))) pe_int (fun _ _ => rfl)))
    (pss_cons (ps_set (i := 3) sc_law_next.nd rfl (Or.inr rfl) (pe_lst pa_nil))
    (pss_cons (ps_for PassesOwn.never rfl (pi_tup (pe_ix ix_tup (pv 2) pe_int (fun _ _ => rfl))) (pg_tup rfl (pgs_cons (pg_name (i := 4) sc_law_next.nd rfl (Or.inl rfl)) (pgs_cons (pg_name (i := 5) sc_law_next.nd rfl (Or.inl rfl)) pgs_nil)))
    (pss_one (ps_set (i := 3) sc_law_next.nd rfl (Or.inr rfl) (pe_op op_cat (pv 3) (pe_lc (own := [("call", 7)]) (g := (gName 7)) rfl sc_law_next.nd (pi_list (pe_call G_law_calls hr_law_calls rfl T.m_law_calls T.F_law_calls.kp T.b_law_calls .nil pass0 (pa_cons (pv 0) (pa_cons (pv 5) pa_nil)))) (blkOk_by (own := [("call", 7)]) (N := ["program", "word", "row", "found", "patterns", "body", "one", "call"]) (sc := defScope s_law_next) (by decide +kernel)) (fun _ _ _ _ _ => (pg_name (i := 7) sc_law_next.nd rfl (Or.inl rfl))) (fun _ _ _ _ _ => pts_one (pt_cmpR (notInSeqK (K := K)) (pe_ix (ixTK (K := K)) (pv 7) pe_int (fun _ _ => rfl)) (pv 3) (by rfl))) (fun _ _ _ _ _ => (pe_ix (ixTK (K := K)) (pv 7) pe_int (fun _ _ => rfl))))))))
    (pss_one (ps_ret (pv 3)))))), ?_⟩
    obtain ⟨a, fa, vs, rfl, ea, ef, iF⟩ := prog_inv hI
    have lF := iF.len
    rw [List.length_map] at lF
    have l4 := G.len
    refine ⟨_, rfl, a, _, _, _, rfl, rfl, .inl (.inl ea), atI_nat (j := 1) rfl, fa, rfl, ⟨_, .inl (.inl ef)⟩, fun D hD => ?_⟩
    refine lc_tup (K := K) (a := fa) (xs := vs) (fun i H2 => ∃ xs, Same H H2 ∧ H2 D = some (.lst xs) ∧ IsL H2 xs (((fs.take i).filter fun f => f.w == z).map fnPV)) ?_ ?_ ?_ ?_
    · exact ⟨[], same_upd hD _, upd_same, .nil⟩
    · exact fun i H2 _ ⟨_, sm, _⟩ => .inl (.inl (sm _ _ ef))
    · rintro i x H2 hx ⟨xs, sm, eD, iX⟩
      obtain ⟨t, et, it⟩ := iF.get hx
      rw [List.getElem?_map] at et
      obtain ⟨f, ef', rfl⟩ := Option.map_eq_some_iff.mp et
      obtain ⟨b, pa, ca, ps, cs, rfl, eb, _, _, _, _, _⟩ := fn_inv (it.same sm)
      have hi := (List.getElem?_eq_some_iff.mp ef').1
      have lx := iX.len
      rw [List.length_map] at lx
      have lf := List.length_filter_le (fun f : Fn => f.w == z) (fs.take i)
      rw [List.length_take] at lf
      refine ⟨rfl, _, rfl, b, _, _, _, rfl, rfl, .inl (.inl eb), atI_nat (j := 0) rfl, _, rfl, rfl, _, rfl, ite2 (fun c => ?_) (fun c => ?_)⟩
      · have e : f.w = z := V.str.inj (of_decide_eq_true c)
        refine ⟨_, rfl, xs, eD, small1000 (by omega), xs ++ [.ref b], Kx.Same.own sm hD _, upd_same, IsL.tk (Tk.wr ⟨_, eD⟩) ?_⟩
        rw [take_snoc ef', List.filter_append, List.map_append]
        have e2 : ([f].filter fun f : Fn => f.w == z) = [f] := by simp [e]
        rw [e2]
        exact iX.append (.cons (it.same sm) .nil)
      · have e : ¬ f.w = z := fun e => c (by rw [e]; exact decide_eq_true rfl)
        refine ⟨xs, sm, eD, ?_⟩
        rw [take_snoc ef', List.filter_append]
        simpa [e] using iX
    rintro H2 ⟨xs, sm, eD, iX⟩
    rw [lF, List.take_length] at iX
    obtain ⟨f, r, ff, hf, ew⟩ : ∃ f r, (fs.filter fun f => f.w == z) = f :: r ∧ f ∈ fs ∧ f.w = z := by
      cases e : fs.filter fun f => f.w == z with
      | nil =>
        obtain ⟨g, hg, eg⟩ := List.mem_map.mp hz
        have : g ∈ fs.filter fun f => f.w == z := List.mem_filter.mpr ⟨hg, by simp [eg]⟩
        rw [e] at this
        cases this
      | cons f r =>
        have := List.mem_filter.mp (e ▸ List.mem_cons_self .. : f ∈ fs.filter fun f => f.w == z)
        exact ⟨f, r, rfl, this.1, beq_iff_eq.mp this.2⟩
    rw [ff] at iX
    cases iX with
    | @cons x0 xs0 _ _ i0 iX =>
    subst ew
    obtain ⟨b, pa, ca, ps, cs, rfl, eb, _, _, ec, iC, _⟩ := fn_inv i0
    have FG := G.fn f hf
    have lC := iC.len
    rw [List.length_map] at lC
    have few := FG.few
    refine ⟨D, _, _, _, rfl, rfl, SqL.of eD, atI_nat (j := 0) rfl, ?_⟩
    refine ⟨(by show 0 ≤ sizeLine; decide), fun n0 hn0 => ?_⟩
    have s3 := same_upd hn0 (.lst [])
    refine ⟨_, rfl, b, _, _, _, rfl, rfl, .inl (.inl (s3 _ _ eb)), atI_nat (j := 5) rfl, ca, rfl, ⟨_, .inl (.inl (s3 _ _ ec))⟩, ?_⟩
    refine for_tup (K := K) (a := ca) (xs := cs) (fun i σ H4 => ∃ (y4 y5 : Option V) (na : Addr) (ys : List Str), σ = [some (.ref a), some (.str f.w), some (.ref b), some (.ref na), y4, y5, none, none] ∧ Same H2 H4 ∧ H2 na = none ∧ H4 na = some (.lst (ys.map V.str)) ∧ ys.length ≤ 100 * i ∧ ∀ y, y ∈ ys ↔ y ∈ fs.map Fn.w ∧ ∃ c ∈ f.cls.take i, y ∈ nw c.body) ?_ ?_ ?_ ?_
    · exact ⟨none, none, n0, [], rfl, s3, hn0, upd_same, Nat.le_refl 0, fun y => by simp⟩
    · rintro i σ H4 _ ⟨_, _, _, _, _, s4, _⟩
      exact .inl (.inl (s4 _ _ ec))
    · rintro i x σ H4 hx ⟨y4, y5, na, ys, rfl, s4, hna, ena, ly, hm⟩
      obtain ⟨t, et, it⟩ := iC.get hx
      rw [List.getElem?_map] at et
      obtain ⟨c, hc, rfl⟩ := Option.map_eq_some_iff.mp et
      obtain ⟨xa, pa', ps', bv, rfl, exa, _, _, ib⟩ := cl_inv (it.same s4)
      have CG := FG.cl c (List.mem_of_getElem? hc)
      have hi := (List.getElem?_eq_some_iff.mp hc).1
      refine ⟨xa, _, rfl, .inl (.inl exa), rfl, _, _, rfl, _, _, rfl, rfl, ?_⟩
      refine ⟨_, rfl, _, rfl, _, rfl, .ref a, fs, bv, c.body, rfl, hI.same (sm.trans s4), G, ib, CG.body.1, (by have := CG.body.2.2; omega), fun la H5 xs' ws s5 el hp hw lw => ⟨la, rfl, ⟨_, SqL.of el⟩, fun E hE => ?_⟩⟩
      have lx := pair_len hp
      have ena5 := s5 _ _ ena
      refine lc_list (K := K) (a := la) (xs := xs') (fun j H6 => Same H5 H6 ∧ H6 E = some (.lst (((ws.take j).filter fun y => decide (y ∉ ys)).map V.str))) ?_ ?_ ?_ ?_
      · exact ⟨same_upd hE _, upd_same⟩
      · exact fun j H6 _ ⟨s6, _⟩ => SqL.of (s6 _ _ el)
      · rintro j x H6 hx2 ⟨s6, eE⟩
        obtain ⟨w, ew, hd⟩ := Paired.get hp hx2
        obtain ⟨nb, r, rfl, en⟩ := hd.tk (.of s6)
        refine ⟨rfl, _, rfl, nb, _, _, _, rfl, rfl, .inl (.inl en), atI_nat (j := 0) rfl, _, rfl, na, _, rfl, .inl (SqL.of (s6 _ _ ena5)), rfl, flat_str _, _, rfl, ?_⟩
        rw [inV_str]
        have l1 := List.length_filter_le (fun y => decide (y ∉ ys)) (ws.take j)
        rw [List.length_take] at l1
        refine ite2 (fun c2 => ?_) (fun c2 => ?_)
        · have nz : w ∉ ys := by simpa using c2
          refine ⟨_, rfl, nb, _, _, _, rfl, rfl, .inl (.inl en), atI_nat (j := 0) rfl, _, eE, small1000 (by rw [List.length_map]; omega), Kx.Same.own s6 hE _, ?_⟩
          rw [upd_same, take_snoc ew, List.filter_append, List.map_append]
          simp [nz]
        · have nz : w ∈ ys := by simpa using c2
          refine ⟨s6, ?_⟩
          rw [eE, take_snoc ew, List.filter_append]
          simp [nz]
      · rintro H6 ⟨s6, eE⟩
        rw [lx, List.take_length] at eE
        have l1 := List.length_filter_le (fun y => decide (y ∉ ys)) ws
        refine ⟨na, E, _, _, rfl, rfl, s6 _ _ ena5, eE, Nat.le_of_lt (small1000 (by rw [List.length_map, List.length_map]; omega)), fun l hl => ?_⟩
        have s7 := same_upd hl (.lst (ys.map V.str ++ ((ws.filter fun y => decide (y ∉ ys)).map V.str)))
        refine ⟨_, _, l, ys ++ ws.filter (fun y => decide (y ∉ ys)), rfl, (s4.trans s5).trans (s6.trans s7), s4.free (s5.free (s6.free hl)), by rw [upd_same, List.map_append], by rw [List.length_append]; omega, fun y => ?_⟩
        rw [List.mem_append, hm y, List.mem_filter, hw y, take_snoc hc]
        constructor
        · rintro (⟨h, e, he, h2⟩ | ⟨⟨h, h2⟩, _⟩)
          · exact ⟨h, e, List.mem_append_left _ he, h2⟩
          · exact ⟨h2, c, by simp, h⟩
        · rintro ⟨h, e, he, h2⟩
          by_cases yy : y ∈ ys
          · exact .inl ((hm y).mp yy)
          · rcases List.mem_append.mp he with he | he
            · exact .inl ⟨h, e, he, h2⟩
            · rw [List.mem_singleton.mp he] at h2
              exact .inr ⟨⟨h2, h⟩, by simp [yy]⟩
    · rintro σ H4 ⟨y4, y5, na, ys, rfl, s4, hna, ena, ly, hm⟩
      rw [lC, List.take_length] at hm
      refine ⟨_, rfl, q na H4 ys (sm.trans s4) (sm.free hna) ena (fun y => ?_) (by omega)⟩
      rw [hm y, ← call_iff G.nd hf]
def spLReached : Sp := spReached
theorem ok_law_reached (T : Txt K mg) (G_law_next : FnOk P w K mg base CX0 2 T.a_law_next T.d_law_next ["program", "word"] spLNext) : FnOk P w K mg base CX0 3 T.a_law_reached T.d_law_reached ["program", "word"] spReached := by
  refine T.F_law_reached.ok sc_law_reached (fun vs H Q E h => ?_) (fun cdv A outer s H vs Q E hr h => ?_)
  · obtain ⟨v, fs, z, rfl, _⟩ := h; rfl
  · obtain ⟨v, fs, z, rfl, hI, G, hz, q⟩ := h
    have hr_law_next := hr
    refine ⟨_, (pss_cons (ps_set (i := 2) sc_law_reached.nd rfl (Or.inl rfl) (pe_lst pa_nil))
    (pss_cons (ps_set (i := 3) sc_law_reached.nd rfl (Or.inl rfl) (pe_lst (pa_cons (pv 1) pa_nil)))
    (pss_cons (ps_while PassesOwn.never (pt_cmpR op_gt (pe_callB call_len_seq (by rfl) T.z_len (by decide +kernel) (pa_cons (pv 3) pa_nil)) pe_int (nomark _))
    (pss_one (ps_for PassesOwn.never rfl (pi_list (pe_call G_law_next hr_law_next rfl T.m_law_next T.F_law_next.kp T.b_law_next .nil pass0 (pa_cons (pv 0) (pa_cons (pe_bm0 PySem.F.plainAttrs_list PySem.F.slot_list_pop PySem.F.type_list_pop mt_pop (pv 3)) pa_nil)))) (pg_name (i := 4) sc_law_reached.nd rfl (Or.inl rfl))
    (pss_one (ps_if (pt_cmpR op_notIn_seq (pv 4) (pv 2) (by rfl)) (pss_cons (ps_expr (pe_bm PySem.F.plainAttrs_list PySem.F.slot_list_append PySem.F.type_list_append mt_append (pv 2) (pa_cons (pv 4) pa_nil)))
    (pss_one (ps_expr (pe_bm PySem.F.plainAttrs_list PySem.F.slot_list_append PySem.F.type_list_append mt_append (pv 3) (pa_cons (pv 4) pa_nil))))) pss_nil)))))
    (pss_one (ps_ret (pv 2)))))), ?_⟩
    refine ⟨(by show 0 ≤ sizeLine; decide), fun fa hfa => ?_⟩
    refine ⟨_, rfl, (by show 1 ≤ sizeLine; decide), fun ta hta => ?_⟩
    have s1 := same_upd hfa (.lst [])
    have s2 := same_upd hta (.lst [.str z])
    have s12 := s1.trans s2
    have ft : H ta = none := s1.free hta
    have nft : fa ≠ ta := ne_of_none upd_same hta
    refine ⟨fun m σ H2 => ∃ (y4 : Option V) (xs fr : List Str), σ = [some v, some (.str z), some (.ref fa), some (.ref ta), y4] ∧ Same H H2 ∧ H2 fa = some (.lst (xs.map V.str)) ∧ H2 ta = some (.lst (fr.map V.str)) ∧ xs.Nodup ∧ (∀ x ∈ xs, Reach fs z x) ∧ (∀ x ∈ fr, x = z ∨ x ∈ xs) ∧ (∀ x, x = z ∨ x ∈ xs → x ∈ fr ∨ ∀ y, Call fs x y → y ∈ xs) ∧ fr.length + 2 * (12 - xs.length) = m ∧ m ≤ 25, ⟨25, none, [], [z], rfl, s12, by rw [upd_ne nft, upd_same]; rfl, upd_same, List.nodup_nil, (fun x hx => by cases hx), fun x hx => .inl (List.mem_singleton.mp hx), fun x hx => .inl (hx.elim (fun e => by simp [e]) fun h => by cases h), rfl, Nat.le_refl 25⟩, ?_⟩
    rintro m σ H2 ⟨y4, xs, fr, rfl, sm, ef, et, nd, hR, hfr, hcl, hm, m9⟩
    have x4 := reach_few G nd fun x hx => reach_word (hR x hx)
    refine ⟨_, rfl, ta, _, rfl, .inl (SqL.of et), _, _, rfl, rfl, _, rfl, ite2 (fun c => ?_) (fun c => ?_)⟩
    case refine_2 =>
      have e0 : fr = [] := by cases fr with | nil => rfl | cons _ _ => simp at c
      subst e0
      refine ⟨_, rfl, q fa H2 sm hfa ⟨xs, ef, nd, fun y => ⟨hR y, reach_in (fun y hy => ?_) fun x hx y hy => ?_⟩⟩⟩
      · exact (hcl z (.inl rfl)).elim (fun h => by cases h) fun h => h y hy
      · exact (hcl x (.inr hx)).elim (fun h => by cases h) fun h => h y hy
    have hne : fr ≠ [] := by intro e; rw [e] at c; simp at c
    have lastE : fr[fr.length - 1]? = some (fr.getLast hne) := by
      rw [List.getLast_eq_getElem, List.getElem?_eq_getElem]
    have drop : fr = fr.dropLast ++ [fr.getLast hne] := (List.dropLast_concat_getLast hne).symm
    have hx := hfr _ (List.getLast_mem hne)
    generalize fr.getLast hne = x at *
    have lfr : fr.length = fr.dropLast.length + 1 := by rw [drop]; simp
    have xw : x ∈ fs.map Fn.w := hx.elim (fun e => e ▸ hz) fun h => reach_word (hR x h)
    have sub : ∀ y ∈ fr.dropLast, y = z ∨ y ∈ xs := fun y hy => hfr y (by rw [drop]; exact List.mem_append_left _ hy)
    have cl2 : ∀ y, y = z ∨ y ∈ xs → y ∈ fr.dropLast ∨ y = x ∨ ∀ w, Call fs y w → w ∈ xs := fun y hy => by
      rcases hcl y hy with h | h
      · rw [drop] at h
        rcases List.mem_append.mp h with h | h
        · exact .inl h
        · exact .inr (.inl (List.mem_singleton.mp h))
      · exact .inr (.inr h)
    generalize fr.dropLast = fr2 at *
    refine ⟨fun σ' H' => ∃ m', m' < m ∧ ∃ (y4 : Option V) (xs fr : List Str), σ' = [some v, some (.str z), some (.ref fa), some (.ref ta), y4] ∧ Same H H' ∧ H' fa = some (.lst (xs.map V.str)) ∧ H' ta = some (.lst (fr.map V.str)) ∧ xs.Nodup ∧ (∀ x ∈ xs, Reach fs z x) ∧ (∀ x ∈ fr, x = z ∨ x ∈ xs) ∧ (∀ x, x = z ∨ x ∈ xs → x ∈ fr ∨ ∀ y, Call fs x y → y ∈ xs) ∧ fr.length + 2 * (12 - xs.length) = m' ∧ m' ≤ 25, fun σ' H' z => z, ?_⟩
    have lst : (fr.map V.str)[(fr.map V.str).length - 1]? = some (.str x) := by rw [List.length_map, List.getElem?_map, lastE] <;> rfl
    have dl : (fr.map V.str).dropLast = fr2.map V.str := by
      rw [drop, List.map_append, List.map_cons, List.map_nil, List.dropLast_concat]
    refine ⟨_, rfl, _, rfl, .inl ⟨rfl, _, SqL.of et⟩, ta, _, _, rfl, rfl, et, lst, ?_⟩
    rw [dl]
    have sm3 : Same H (upd H2 ta (.lst (fr2.map V.str))) := Kx.Same.own sm ft _
    have ef3 : (upd H2 ta (.lst (fr2.map V.str))) fa = some (.lst (xs.map V.str)) := by rw [upd_ne nft]; exact ef
    have et3 : (upd H2 ta (.lst (fr2.map V.str))) ta = some (.lst (fr2.map V.str)) := upd_same
    generalize upd H2 ta (.lst (fr2.map V.str)) = H3 at *
    refine ⟨v, fs, x, rfl, hI.same sm3, G, xw, fun la H4 ys s4 hla el hy ly => ⟨la, rfl, ⟨_, SqL.of el⟩, ?_⟩⟩
    have nlf : la ≠ fa := (ne_of_none ef3 hla).symm
    have nlt : la ≠ ta := (ne_of_none et3 hla).symm
    refine for_list (K := K) (a := la) (xs := ys.map V.str) (fun j σ H5 => ∃ (y4 : Option V) (xs' fr' : List Str), σ = [some v, some (.str z), some (.ref fa), some (.ref ta), y4] ∧ Same H H5 ∧ H5 la = some (.lst (ys.map V.str)) ∧ H5 fa = some (.lst (xs'.map V.str)) ∧ H5 ta = some (.lst (fr'.map V.str)) ∧ xs'.Nodup ∧ (∀ x ∈ xs', Reach fs z x) ∧ (∀ y ∈ xs, y ∈ xs') ∧ (∀ y ∈ ys.take j, y ∈ xs') ∧ (∀ x ∈ fr', x = z ∨ x ∈ xs') ∧ (∀ y, y = z ∨ y ∈ xs' → y ∈ fr' ∨ y = x ∨ ∀ w, Call fs y w → w ∈ xs') ∧ fr'.length + 2 * (12 - xs'.length) + 1 ≤ m) ?_ ?_ ?_ ?_
    · exact ⟨y4, xs, fr2, rfl, sm3.trans s4, el, s4 _ _ ef3, s4 _ _ et3, nd, hR, fun y hy => hy, fun y hy => by simp at hy, sub, cl2, by omega⟩
    · rintro j σ H5 _ ⟨_, _, _, _, _, e, _⟩
      exact SqL.of e
    · rintro j x' H5' H5 hx' ⟨y4', xs', fr', rfl, sm5, el5, ef5, et5, nd5, hR5, old, tk5, fr5, cl5, m5⟩
      rw [List.getElem?_map] at hx'
      obtain ⟨y, ey, rfl⟩ := Option.map_eq_some_iff.mp hx'
      have yc := (hy y).mp (List.mem_of_getElem? ey)
      have x5 := reach_few G nd5 fun x hx => reach_word (hR5 x hx)
      have rx : Reach fs z y := hx.elim (fun e => .one (e ▸ yc)) fun h => .more (hR x h) yc
      refine ⟨_, rfl, _, rfl, fa, _, rfl, .inl (SqL.of ef5), rfl, flat_str _, _, rfl, ?_⟩
      rw [inV_str]
      refine ite2 (fun c2 => ?_) (fun c2 => ?_)
      · have nz : y ∉ xs' := by simpa using c2
        have nd6 : (xs' ++ [y]).Nodup := List.nodup_append.mpr ⟨nd5, by simp, fun a ha b hb e => nz (by rw [List.mem_singleton.mp hb] at e; exact e ▸ ha)⟩
        have hR6 : ∀ x ∈ xs' ++ [y], Reach fs z x := fun w hw => by
          rcases List.mem_append.mp hw with h | h
          · exact hR5 w h
          · rw [List.mem_singleton.mp h]; exact rx
        have x6 := reach_few G nd6 fun x hx => reach_word (hR6 x hx)
        rw [List.length_append, List.length_singleton] at x6
        have et6 : (upd H5 fa (.lst (xs'.map V.str ++ [.str y]))) ta = some (.lst (fr'.map V.str)) := by rw [upd_ne nft.symm]; exact et5
        refine ⟨_, rfl, .inl ⟨rfl, _, SqL.of ef5⟩, _, rfl, fa, _, _, rfl, rfl, ef5, small1000 (by rw [List.length_map]; omega), ?_⟩
        refine ⟨_, rfl, .inl ⟨rfl, _, SqL.of et6⟩, _, rfl, ta, _, _, rfl, rfl, et6, small1000 (by rw [List.length_map]; omega), ?_⟩
        refine ⟨_, xs' ++ [y], fr' ++ [y], rfl, Kx.Same.own (Kx.Same.own sm5 hfa _) ft _, by rw [upd_ne nlt, upd_ne nlf]; exact el5, by rw [upd_ne nft, upd_same, List.map_append]; rfl, by rw [upd_same, List.map_append]; rfl, nd6, hR6, fun w hw => List.mem_append_left _ (old w hw), fun w hw => ?_, fun w hw => ?_, fun w hw => ?_, by rw [List.length_append, List.length_append, List.length_singleton]; omega⟩
        · rw [take_snoc ey] at hw
          rcases List.mem_append.mp hw with h | h
          · exact List.mem_append_left _ (tk5 w h)
          · exact List.mem_append_right _ h
        · rcases List.mem_append.mp hw with h | h
          · exact (fr5 w h).imp id fun h => List.mem_append_left _ h
          · exact .inr (List.mem_append_right _ h)
        · have old2 : w = z ∨ w ∈ xs' → w ∈ fr' ++ [y] ∨ w = x ∨ ∀ u, Call fs w u → u ∈ xs' ++ [y] := fun h => by
            rcases cl5 w h with h | h | h
            · exact .inl (List.mem_append_left _ h)
            · exact .inr (.inl h)
            · exact .inr (.inr fun u hu => List.mem_append_left _ (h u hu))
          rcases hw with h | h
          · exact old2 (.inl h)
          · rcases List.mem_append.mp h with h | h
            · exact old2 (.inr h)
            · exact .inl (List.mem_append_right _ h)
      · have nz : y ∈ xs' := by simpa using c2
        refine ⟨_, xs', fr', rfl, sm5, el5, ef5, et5, nd5, hR5, old, fun w hw => ?_, fr5, cl5, m5⟩
        rw [take_snoc ey] at hw
        rcases List.mem_append.mp hw with h | h
        · exact tk5 w h
        · rw [List.mem_singleton.mp h]; exact nz
    · rintro σ H5 ⟨y4', xs', fr', rfl, sm5, el5, ef5, et5, nd5, hR5, old, tk5, fr5, cl5, m5⟩
      rw [List.length_map, List.take_length] at tk5
      refine ⟨_, by omega, _, xs', fr', rfl, sm5, ef5, et5, nd5, hR5, fr5, fun y hy2 => ?_, rfl, by omega⟩
      rcases cl5 y hy2 with h | h | h
      · exact .inl h
      · exact .inr fun w hw => tk5 w ((hy w).mpr (h ▸ hw))
      · exact .inr h
def spLGroup : Sp := fun vs H Q _ => ∃ v fs z, vs = [v, .str z] ∧ Is H v (progPV fs) ∧ ProgG fs ∧ z ∈ fs.map Fn.w ∧ ∀ p H' (ys : List Str), Same H H' → H' p = some (.lst (ys.map V.str)) → ys.Nodup → sortedS ys = true → (∀ y, y ∈ ys ↔ InG fs z y) → Q (.ref p) H'
theorem ok_law_group (T : Txt K mg) (G_law_reached : FnOk P w K mg base CX0 3 T.a_law_reached T.d_law_reached ["program", "word"] spReached) : FnOk P w K mg base CX0 4 T.a_law_group T.d_law_group ["program", "word"] spLGroup := by
  refine T.F_law_group.ok sc_law_group (fun vs H Q E h => ?_) (fun cdv A outer s H vs Q E hr h => ?_)
  · obtain ⟨v, fs, z, rfl, _⟩ := h; rfl
  · obtain ⟨v, fs, z, rfl, hI, G, hz, q⟩ := h
    have hr_law_reached := hr
    refine ⟨_, (pss_cons (ps_setLc (i := 2) (own := [("other", 3)]) (g := (gName 3)) rfl sc_law_group.nd rfl rfl (sw_true rfl rfl rfl (by decide +kernel)) (pi_list (pe_call G_law_reached hr_law_reached rfl T.m_law_reached T.F_law_reached.kp T.b_law_reached .nil pass0 (pa_cons (pv 0) (pa_cons (pv 1) pa_nil)))) (blkOk_by (own := [("other", 3)]) (N := ["program", "word", "found", "other"]) (sc := defScope s_law_group) (by decide +kernel)) (fun _ _ _ _ _ => (pg_name (i := 3) sc_law_group.nd rfl (Or.inl rfl))) (fun _ _ _ _ _ => pts_one (pt_cmpR (inSeqK (K := K)) (pv 1) (pe_call G_law_reached hr_law_reached rfl T.m_law_reached T.F_law_reached.kp T.b_law_reached .nil pass0 (pa_cons (pv 0) (pa_cons (pv 3) pa_nil))) (by rfl))) (fun _ _ _ _ _ => (pv 3)))
    (Evl.pss_cut (ps_if (pt_cmpR op_notIn_seq (pv 1) (pv 2) (by rfl)) (pss_one (ps_expr (pe_bm PySem.F.plainAttrs_list PySem.F.slot_list_append PySem.F.type_list_append mt_append (pv 2) (pa_cons (pv 1) pa_nil)))) pss_nil)
    (pss_one (ps_ret (pe_callB cr_sortedS (by rfl) T.z_sorted (by decide +kernel) (pa_cons (pv 2) pa_nil)))))), ?_⟩
    refine ⟨_, rfl, _, rfl, v, fs, z, rfl, hI, G, hz, fun la H1 s1 hla rl => ?_⟩
    obtain ⟨xs, el, nd, hm⟩ := rl
    refine ⟨la, rfl, ⟨_, SqL.of el⟩, fun D hD => ?_⟩
    have x4 := reach_few G nd fun x hx => reach_word ((hm x).mp hx)
    refine lc_list (K := K) (a := la) (xs := xs.map V.str) (fun j H2 => Same H1 H2 ∧ ∃ ys : List Str, H2 D = some (.lst (ys.map V.str)) ∧ ys.Nodup ∧ ys.length ≤ j ∧ ∀ y, y ∈ ys ↔ y ∈ xs.take j ∧ Reach fs y z) ?_ ?_ ?_ ?_
    · exact ⟨same_upd hD _, [], upd_same, List.nodup_nil, Nat.le_refl 0, fun y => by simp⟩
    · exact fun j H2 _ ⟨s2, _⟩ => SqL.of (s2 _ _ el)
    · rintro j x H2 hx ⟨s2, ys, eD, ndy, ly, hy⟩
      rw [List.getElem?_map] at hx
      obtain ⟨y, ey, rfl⟩ := Option.map_eq_some_iff.mp hx
      have yx := List.mem_of_getElem? ey
      have hj := (List.getElem?_eq_some_iff.mp ey).1
      refine ⟨rfl, _, rfl, _, rfl, _, rfl, v, fs, y, rfl, hI.same (s1.trans s2), G, reach_word ((hm y).mp yx), fun lb H3 s3 hlb rl3 => ?_⟩
      obtain ⟨zs, eb, _, mz⟩ := rl3
      refine ⟨lb, _, rfl, .inl (SqL.of eb), rfl, flat_str _, _, rfl, ?_⟩
      rw [inV_str]
      have nin : y ∉ ys := fun h => by
        have h2 := ((hy y).mp h).1
        obtain ⟨hi, eg'⟩ := List.getElem?_eq_some_iff.mp ey
        have e : xs = xs.take j ++ y :: xs.drop (j + 1) := by
          rw [← eg', ← List.drop_eq_getElem_cons hi, List.take_append_drop]
        rw [e] at nd
        exact (List.nodup_append.mp nd).2.2 _ h2 _ (List.mem_cons_self ..) rfl
      refine ite2 (fun c2 => ?_) (fun c2 => ?_)
      · have hz2 : z ∈ zs := by simpa using c2
        refine ⟨_, rfl, _, s3 _ _ eD, small1000 (by rw [List.length_map]; omega), Kx.Same.own (s2.trans s3) hD _, ys ++ [y], by rw [upd_same, List.map_append]; rfl, List.nodup_append.mpr ⟨ndy, by simp, fun a ha b hb e => nin (by rw [List.mem_singleton.mp hb] at e; exact e ▸ ha)⟩, by rw [List.length_append, List.length_singleton]; omega, fun w => ?_⟩
        rw [List.mem_append, hy w, take_snoc ey, List.mem_append, List.mem_singleton]
        constructor
        · rintro (⟨h, h2⟩ | rfl)
          · exact ⟨.inl h, h2⟩
          · exact ⟨.inr rfl, (mz z).mp hz2⟩
        · rintro ⟨h | h, h2⟩
          · exact .inl ⟨h, h2⟩
          · exact .inr h
      · have hz2 : z ∉ zs := by simpa using c2
        refine ⟨s2.trans s3, ys, s3 _ _ eD, ndy, by omega, fun w => ?_⟩
        rw [hy w, take_snoc ey, List.mem_append, List.mem_singleton]
        constructor
        · rintro ⟨h, h2⟩
          exact ⟨.inl h, h2⟩
        · rintro ⟨h | rfl, h2⟩
          · exact ⟨h, h2⟩
          · exact absurd ((mz z).mpr h2) hz2
    · rintro H2 ⟨s2, ys, eD, ndy, ly, hy⟩
      rw [List.length_map] at ly
      rw [List.length_map, List.take_length] at hy
      have fD : H D = none := s1.free hD
      have sm := s1.trans s2
      have mem : ∀ y, y ∈ ys ↔ Reach fs z y ∧ Reach fs y z := fun y => by rw [hy y, hm y]
      refine ⟨fun σ H3 => ∃ zs : List Str, σ = [some v, some (.str z), some (.ref D), none] ∧ Same H H3 ∧ H3 D = some (.lst (zs.map V.str)) ∧ zs.Nodup ∧ zs.length ≤ 13 ∧ ∀ y, y ∈ zs ↔ InG fs z y, ?_, ?_⟩
      · refine ⟨_, rfl, _, rfl, D, _, rfl, .inl (SqL.of eD), rfl, flat_str _, _, rfl, ?_⟩
        rw [inV_str]
        refine ite2 (fun c2 => ?_) (fun c2 => ?_)
        · have nz : z ∉ ys := by simpa using c2
          refine ⟨_, rfl, .inl ⟨rfl, _, SqL.of eD⟩, _, rfl, D, _, _, rfl, rfl, eD, small1000 (by rw [List.length_map]; omega), ys ++ [z], rfl, Kx.Same.own sm fD _, by rw [upd_same, List.map_append]; rfl, List.nodup_append.mpr ⟨ndy, by simp, fun a ha b hb e => nz (by rw [List.mem_singleton.mp hb] at e; exact e ▸ ha)⟩, by rw [List.length_append, List.length_singleton]; omega, fun y => ?_⟩
          rw [List.mem_append, List.mem_singleton, mem y]
          exact Or.comm
        · have nz : z ∈ ys := by simpa using c2
          refine ⟨ys, rfl, sm, eD, ndy, by omega, fun y => ?_⟩
          rw [mem y]
          exact ⟨.inr, fun h => h.elim (fun e => e ▸ (mem z).mp nz) id⟩
      · rintro σ H3 ⟨zs, rfl, sm3, e3, ndz, lz, hz3⟩
        refine ⟨_, rfl, D, zs, rfl, SqL.of e3, by omega, fun ws p hp srt hn => ?_⟩
        refine q p _ ws (sm3.trans (same_upd hn _)) upd_same (hp.nodup_iff.mpr ndz) srt fun y => ?_
        rw [hp.mem_iff, hz3 y]
end
end Kx
namespace Kx
open PySem PySem.Spec PyProof.Rows L2
section
variable {P : Program} {w : World} {K : PySem.W.Frag} {mg : Str → Option Value} {base : Heap}
set_option pp.maxSteps 700
/-! ### words -/
def wok (z : Str) : Bool := decide (1 ≤ z.length) && decide (z.length ≤ 12) && Txt.isascii z && Txt.isalnum z && (match z.cps.toList with
  | c :: _ => Txt.isalpha ⟨#[c]⟩
  | [] => false)
def WL : List Str := NM ++ (("a" : Str) :: (List.range 12).map fw)
theorem wl_ok : ∀ z ∈ WL, wok z = true := by decide +kernel
theorem kSS {K : PySem.W.Frag} : PySem.W.kitOne K (.type "str") (.type "str") = some true := kit_ty (show kitB "str" "str" = some true by decide +kernel)
theorem kTT {K : PySem.W.Frag} : PySem.W.kitOne K (.type "tuple") (.type "tuple") = some true := kit_ty (show kitB "tuple" "tuple" = some true by decide +kernel)
theorem kTS {K : PySem.W.Frag} : PySem.W.kitOne K (.type "tuple") (.type "str") = some false := kit_ty (show kitB "tuple" "str" = some false by decide +kernel)
theorem kST {K : PySem.W.Frag} : PySem.W.kitOne K (.type "str") (.type "tuple") = some false := kit_ty (show kitB "str" "tuple" = some false by decide +kernel)
theorem kII {K : PySem.W.Frag} : PySem.W.kitOne K (.type "int") (.type "int") = some true := kit_ty (show kitB "int" "int" = some true by decide +kernel)
theorem kIB {K : PySem.W.Frag} : PySem.W.kitOne K (.type "int") (.type "bool") = some false := kit_ty (show kitB "int" "bool" = some false by decide +kernel)
def spWord : Sp := fun vs H Q _ => ∃ z, vs = [.str z] ∧ sok z = true ∧ z ∈ WL ∧ Q (.bl true) H
theorem ok_is_word (T : Txt K mg)  : FnOk P w K mg base CX0 1 T.a_is_word T.d_is_word ["value"] spWord := by
  refine T.F_is_word.ok sc_is_word (fun vs H Q E h => ?_) (fun cdv A outer s H vs Q E hr h => ?_)
  · obtain ⟨z, rfl, _⟩ := h; rfl
  · obtain ⟨z, rfl, ok, hz, q⟩ := h
    refine ⟨_, (pss_cons (ps_if (PW.pt (pw_or (pt_not (pt_val (pe_callB call_isi (by rfl) T.z_isinstance (by decide +kernel) (pa_cons (pv 0) (pa_cons (pe_bltn rfl T.z_str (by decide +kernel) (show RelV (V.ty "str") (Value.type "str") from rfl)) pa_nil))))) (pw_or1 (pt_not (pt_chain op_le op_le pe_int (pe_callB call_len_str (by rfl) T.z_len (by decide +kernel) (pa_cons (pv 0) pa_nil)) (pe_glob (by rfl) T.g_MOST_NAME (show RelV (V.int 12) (.int 12 T.t_MOST_NAME) from ⟨_, rfl⟩)) (by with_unfolding_all rfl)))))) (pss_one (ps_ret pe_bl)) pss_nil)
    (pss_one (ps_ret (pe_and (pe_bm0 PySem.F.plainAttrs_str PySem.F.slot_str_isascii PySem.F.type_str_isascii mt_isascii (pv 0)) (pe_and (pe_m0 PySem.F.slot_str_isalnum PySem.F.type_str_isalnum mt_isalnum (pv 0)) (pe_one (pe_m0 PySem.F.slot_str_isalpha PySem.F.type_str_isalpha mt_isalpha (pe_ix ix_str (pv 0) pe_int (fun _ _ => rfl))))))))), ?_⟩
    have w := wl_ok z hz
    simp only [wok, Bool.and_eq_true, decide_eq_true_eq] at w
    obtain ⟨⟨⟨⟨w1, w2⟩, w3⟩, w4⟩, w5⟩ := w
    obtain ⟨c, hc, w6⟩ : ∃ c, atI z.cps.toList 0 = some c ∧ Txt.isalpha ⟨#[c]⟩ = true := by
      cases e : z.cps.toList with
      | nil => rw [e] at w5; cases w5
      | cons c r => rw [e] at w5; exact ⟨c, atI_nat (xs := c :: r) (j := 0) rfl, w5⟩
    refine ⟨_, rfl, _, _, .type "str", .type "str", true, rfl, .ty _, .base (.str z), kSS, _, rfl, iteF ?_⟩
    refine ⟨_, rfl, z, rfl, Nat.le_trans w2 (by decide), _, _, rfl, rfl, _, rfl, ite2 (fun _ => ?_) (fun c1 => absurd (decide_eq_true (by omega)) c1)⟩
    refine ⟨_, _, rfl, rfl, _, rfl, ?_⟩
    rw [show decide ((z.length : Int) ≤ 12) = true from decide_eq_true (by omega)]
    refine iteF ⟨_, rfl, rfl, z, rfl, rfl, trivial, _, rfl, ?_⟩
    rw [w3]
    refine iteT ⟨_, rfl, ⟨z, rfl⟩, z, rfl, rfl, trivial, _, rfl, ?_⟩
    rw [w4]
    refine iteT ⟨_, rfl, z, 0, c, rfl, rfl, Nat.le_trans w2 (by decide), hc, ⟨_, rfl⟩, _, rfl, rfl, trivial, ?_⟩
    rw [w6]
    exact q
def spRow : Sp := fun vs H Q _ => ∃ (a : Addr) (us : List V) (n : Int), vs = [.ref a, .int n] ∧ H a = some (.tup us) ∧ Q (.bl (decide ((us.length : Int) = n))) H
theorem ok_is_row (T : Txt K mg)  : FnOk P w K mg base CX0 1 T.a_is_row T.d_is_row ["value", "many"] spRow := by
  refine T.F_is_row.ok sc_is_row (fun vs H Q E h => ?_) (fun cdv A outer s H vs Q E hr h => ?_)
  · obtain ⟨a, us, n, rfl, _⟩ := h; rfl
  · obtain ⟨a, us, n, rfl, ea, q⟩ := h
    refine ⟨_, (pss_one (ps_ret (pe_and (pe_callB call_isi (by rfl) T.z_isinstance (by decide +kernel) (pa_cons (pv 0) (pa_cons (pe_bltn rfl T.z_tuple (by decide +kernel) (show RelV (V.ty "tuple") (Value.type "tuple") from rfl)) pa_nil))) (pe_one (pe_cmpR op_eq (pe_callB call_len_seq (by rfl) T.z_len (by decide +kernel) (pa_cons (pv 0) pa_nil)) (pv 1) (nomark _)))))), ?_⟩
    refine ⟨_, rfl, _, _, .type "tuple", .type "tuple", true, rfl, .ty _, .base (.tup ea), kTT, _, rfl, iteT ?_⟩
    refine ⟨_, rfl, a, us, rfl, .inr (.inl (.inl ea)), _, rfl, rfl, ?_⟩
    rw [show decide (V.int (us.length : Int) = V.int n) = decide ((us.length : Int) = n) by simp]
    exact q
def spInt : Sp := fun vs H Q _ => ∃ i, vs = [.int i] ∧ Q (.bl true) H
theorem ok_is_integer (T : Txt K mg)  : FnOk P w K mg base CX0 1 T.a_is_integer T.d_is_integer ["value"] spInt := by
  refine T.F_is_integer.ok sc_is_integer (fun vs H Q E h => ?_) (fun cdv A outer s H vs Q E hr h => ?_)
  · obtain ⟨i, rfl, _⟩ := h; rfl
  · obtain ⟨i, rfl, q⟩ := h
    refine ⟨_, (pss_one (ps_ret (pe_and (pe_callB call_isi (by rfl) T.z_isinstance (by decide +kernel) (pa_cons (pv 0) (pa_cons (pe_bltn rfl T.z_int (by decide +kernel) (show RelV (V.ty "int") (Value.type "int") from rfl)) pa_nil))) (pe_one (pe_not (pe_callB call_isi (by rfl) T.z_isinstance (by decide +kernel) (pa_cons (pv 0) (pa_cons (pe_bltn rfl T.z_bool (by decide +kernel) (show RelV (V.ty "bool") (Value.type "bool") from rfl)) pa_nil)))))))), ?_⟩
    refine ⟨_, rfl, _, _, .type "int", .type "int", true, rfl, .ty _, .base (.int i), kII, _, rfl, iteT ?_⟩
    refine ⟨_, rfl, _, _, .type "int", .type "bool", false, rfl, .ty _, .base (.int i), kIB, _, rfl, q⟩
def spDeep : Sp := fun vs H Q _ => ∃ z, vs = [.str z, .int 4] ∧ sok z = true ∧ Q (.bl false) H
theorem ok_is_deeper (T : Txt K mg) (G_is_deeper : FnOk P w K mg base CX0 1 T.a_is_deeper T.d_is_deeper ["term", "most"] spNever) : FnOk P w K mg base CX0 2 T.a_is_deeper T.d_is_deeper ["term", "most"] spDeep := by
  refine T.F_is_deeper.ok sc_is_deeper (fun vs H Q E h => ?_) (fun cdv A outer s H vs Q E hr h => ?_)
  · obtain ⟨z, rfl, _⟩ := h; rfl
  · obtain ⟨z, rfl, ok, q⟩ := h
    have hr_is_deeper := hr
    refine ⟨_, (pss_cons (ps_if (pt_cmpR op_eq (pv 1) pe_int (nomark _)) (pss_one (ps_ret pe_bl)) pss_nil)
    (pss_cons (ps_if (pt_val (pe_callB call_isi (by rfl) T.z_isinstance (by decide +kernel) (pa_cons (pv 0) (pa_cons (pe_bltn rfl T.z_str (by decide +kernel) (show RelV (V.ty "str") (Value.type "str") from rfl)) pa_nil)))) (pss_one (ps_ret pe_bl)) pss_nil)
    (pss_cons (ps_for PassesOwn.never rfl (pi_tup (pe_slice sl_tup (pv 0) (po_some pe_int) po_none)) (pg_name (i := 2) sc_is_deeper.nd rfl (Or.inl rfl))
    (pss_one (ps_if (pt_val (pe_call G_is_deeper hr_is_deeper rfl T.m_is_deeper T.F_is_deeper.kp T.b_is_deeper .nil pass0 (pa_cons (pv 2) (pa_cons (pe_op op_sub (pv 1) pe_int) pa_nil)))) (pss_one (ps_ret pe_bl)) pss_nil)))
    (pss_one (ps_ret pe_bl))))), ?_⟩
    refine ⟨_, rfl, rfl, _, rfl, iteF ?_⟩
    refine ⟨_, rfl, _, _, .type "str", .type "str", true, rfl, .ty _, .base (.str z), kSS, _, rfl, iteT q⟩
/-! ### the table -/
def rowIx (w : Str) : PV := if w = "K0" then .tup [.str "z"] else .tup [.str "s", .str "n"]
def rowPV (p : Str × Nat) : PV := .tup [.str p.1, .tup (List.replicate p.2 (.tup [.str "Fa", .str "n"])), .str "Fa", rowIx p.1]
structure TabAt (H : Hp) (tv : V) : Prop where
  ex : ∃ (t m p0 p1 f c : Addr) (o : Obj), tv = .ref t ∧ H t = some (.tup [.str "table", .ref m, .ref f, .ref c]) ∧ H m = some (.frz o (.tup [.ref p0, .ref p1])) ∧ o.dict = none ∧ H p0 = some (.tup [.str "z", .int 0]) ∧ H p1 = some (.tup [.str "s", .int 1]) ∧ H f = some (.tup [.str "Fa"]) ∧ Is H (.ref c) (.tup (KA.map rowPV))
theorem TabAt.keep {H H' : Hp} {tv : V} (h : TabAt H tv) (x : ∀ b o, H b = some o → (∀ xs, o ≠ .lst xs) → (∀ kvs, o ≠ .dK kvs) → (∀ C d fs, o ≠ .ins C d fs) → H' b = some o) : TabAt H' tv := by
  obtain ⟨t, m, p0, p1, f, c, o, e0, e1, e2, e3, e4, e5, e6, i⟩ := h.ex
  have tk : Tk H H' := fun a vs e => x a _ e (fun _ z => by cases z) (fun _ z => by cases z) fun _ _ _ z => by cases z
  exact ⟨⟨t, m, p0, p1, f, c, o, e0, tk _ _ e1, x _ _ e2 (fun _ z => by cases z) (fun _ z => by cases z) (fun _ _ _ z => by cases z), e3, tk _ _ e4, tk _ _ e5, tk _ _ e6, i.tk tk⟩⟩
theorem TabAt.same {H H' : Hp} {tv : V} (s : Same H H') (h : TabAt H tv) : TabAt H' tv := h.keep fun b o e _ _ _ => s b o e
theorem TabAt.ex' {d c : Addr} {H H' : Hp} {tv : V} (x : Ex d c H H') (D : Dr H d c) (h : TabAt H tv) : TabAt H' tv := h.keep fun b o e n _ _ => x.keep D e n
def conOf (w : Str) : Option (Str × Nat) := KA.find? fun p => p.1 == w
def spCon : Sp := fun vs H Q _ => ∃ tv w, vs = [tv, .str w] ∧ TabAt H tv ∧ ∀ v', (∀ p, conOf w = some p → Is H v' (rowPV p)) → (conOf w = none → v' = .non) → Q v' H
theorem ok_constructor_of (T : Txt K mg)  : FnOk P w K mg base CX0 1 T.a_constructor_of T.d_constructor_of ["table", "word"] spCon := by
  refine T.F_constructor_of.ok sc_constructor_of (fun vs H Q E h => ?_) (fun cdv A outer s H vs Q E hr h => ?_)
  · obtain ⟨tv, w, rfl, _⟩ := h; rfl
  · obtain ⟨tv, z, rfl, hT, q⟩ := h
    refine ⟨_, (pss_cons (ps_for PassesOwn.never rfl (pi_tup (pe_ix ix_tup (pv 0) pe_int (fun _ _ => rfl))) (pg_name (i := 2) sc_constructor_of.nd rfl (Or.inl rfl))
    (pss_one (ps_if (pt_cmpR op_eq (pe_ix ix_tup (pv 2) pe_int (fun _ _ => rfl)) (pv 1) (nomark _)) (pss_one (ps_ret (pv 2))) pss_nil)))
    (pss_one (ps_ret pe_non))), ?_⟩
    obtain ⟨t, m, p0, p1, f, c, o, rfl, e1, e2, e3, e4, e5, e6, iK⟩ := hT.ex
    obtain ⟨_, vs, e0, ef, iF⟩ := iK.tup_inv
    cases e0
    refine ⟨_, rfl, t, _, _, _, rfl, rfl, .inl (.inl e1), atI_nat (j := 3) rfl, c, rfl, ⟨_, .inl (.inl ef)⟩, ?_⟩
    refine for_tup (K := K) (a := c) (xs := vs) (fun i σ H2 => ∃ y2, σ = [some (.ref t), some (.str z), y2] ∧ H2 = H ∧ (KA.take i).find? (fun p => p.1 == z) = none) ?_ ?_ ?_ ?_
    · exact ⟨none, rfl, rfl, rfl⟩
    · rintro i σ H2 _ ⟨_, _, rfl, _⟩
      exact .inl (.inl ef)
    · rintro i x σ H2 hx ⟨y2, rfl, rfl, hn⟩
      obtain ⟨tt, et, it⟩ := iF.get hx
      rw [List.getElem?_map] at et
      obtain ⟨p, ep, rfl⟩ := Option.map_eq_some_iff.mp et
      obtain ⟨b, us, rfl, eb, iU⟩ := id it.tup_inv
      obtain ⟨u0, u1, u2, u3, rfl, hu0⟩ : ∃ u0 u1 u2 u3, us = [u0, u1, u2, u3] ∧ u0 = V.str p.1 := by
        cases iU with
        | cons a r => cases r with
          | cons b r => cases r with
            | cons c r => cases r with
              | cons d r => cases r with
                | nil => exact ⟨_, _, _, _, rfl, a.str_inv⟩
      subst hu0
      obtain ⟨hi, eg⟩ := List.getElem?_eq_some_iff.mp ep
      have tk : KA = KA.take i ++ p :: KA.drop (i + 1) := by
        rw [← eg, ← List.drop_eq_getElem_cons hi, List.take_append_drop]
      have tk1 : KA.take (i + 1) = KA.take i ++ [p] := by rw [List.take_succ_eq_append_getElem hi, eg]
      refine ⟨_, rfl, b, _, _, _, rfl, rfl, .inl (.inl eb), atI_nat (j := 0) rfl, _, rfl, rfl, _, rfl, ite2 (fun c => ?_) (fun c => ?_)⟩
      · have e : p.1 = z := V.str.inj (of_decide_eq_true c)
        have fd : conOf z = some p := by
          rw [conOf, tk, List.find?_append, hn]
          simp [e]
        refine ⟨_, rfl, q _ (fun g hg => ?_) (fun hg => ?_)⟩
        · rw [fd] at hg; cases hg; exact it
        · rw [fd] at hg; cases hg
      · have e : ¬ p.1 = z := fun e => c (by rw [e]; exact decide_eq_true rfl)
        refine ⟨_, rfl, rfl, ?_⟩
        rw [tk1, List.find?_append, hn]
        simp [e]
    · rintro σ H2 ⟨y2, rfl, rfl, hn⟩
      have lF := iF.len
      rw [List.length_map] at lF
      rw [lF, List.take_length] at hn
      exact q _ (fun f hf => by rw [conOf, hn] at hf; cases hf) fun _ => rfl
end
end Kx
namespace Kx
open PySem PySem.Spec PyProof.Rows L2
section
variable {P : Program} {w : World} {K : PySem.W.Frag} {mg : Str → Option Value} {base : Heap}
set_option pp.maxSteps 900
def spKInit (C : Addr) : Sp := fun vs H Q _ => ∃ x dx, vs = [.ref x] ∧ H x = some (.ins C dx []) ∧ ∀ d, H d = none → Q .non (upd (upd H d (.dK [])) x (.ins C dx [("rows", .ref d)]))
theorem ok_Kept_init (T : Txt K mg)  : FnOk P w K mg base CX0 1 T.a_Kept_init T.d_Kept_init ["self"] (spKInit T.c_Kept) := by
  refine T.F_Kept_init.ok sc_Kept_init (fun vs H Q E h => ?_) (fun cdv A outer s H vs Q E hr h => ?_)
  · obtain ⟨x, dx, rfl, _⟩ := h; rfl
  · obtain ⟨x, dx, rfl, e, q⟩ := h
    refine ⟨_, (pss_one (ps_fld (pv 0) pe_dnewK rfl)), ?_⟩
    refine fun d hd => ⟨_, rfl, x, T.c_Kept, dx, [], rfl, by rw [upd_ne (ne_of_none e hd)]; exact e, T.cl_Kept, T.no_Kept_rows, by decide, ?_⟩
    exact q d hd
def spForm : Sp := fun vs H Q _ => ∃ (p k : Addr) (kvs : List (Key × V)) (z : Str), vs = [.ref p, .str z, .bl true, .ref k] ∧ H p = some (.dK kvs) ∧ valV kvs (Sum.inr z) = none ∧ sok z = true ∧ Q (.bl true) H
theorem ok_has_form (T : Txt K mg) (G_has_form : FnOk P w K mg base CX0 1 T.a_has_form T.d_has_form ["parts_by_word", "value", "may_have_names", "kept"] spNever) (G_Kept_pair_of : FnOk P w K mg base CX0 1 T.a_Kept_pair_of T.d_Kept_pair_of ["self", "tree"] spNever) (G_Kept_keep : FnOk P w K mg base CX0 1 T.a_Kept_keep T.d_Kept_keep ["self", "tree", "result"] spNever) : FnOk P w K mg base CX0 2 T.a_has_form T.d_has_form ["parts_by_word", "value", "may_have_names", "kept"] spForm := by
  refine T.F_has_form.ok sc_has_form (fun vs H Q E h => ?_) (fun cdv A outer s H vs Q E hr h => ?_)
  · obtain ⟨p, k, kvs, z, rfl, _⟩ := h; rfl
  · obtain ⟨p, k, kvs, z, rfl, ep, no, ok, q⟩ := h
    have hu := hu_of hr
    have hr_has_form := hr
    have hr_Kept_pair_of := hr
    have hr_Kept_keep := hr
    refine ⟨_, (pss_cons (ps_if (pt_val (pe_callB call_isi (by rfl) T.z_isinstance (by decide +kernel) (pa_cons (pv 1) (pa_cons (pe_bltn rfl T.z_str (by decide +kernel) (show RelV (V.ty "str") (Value.type "str") from rfl)) pa_nil)))) (pss_one (ps_ret (pe_and (pv 2) (pe_one (pe_cmp (pc_dnotin hu (pv 1) (pv 0)) rfl))))) pss_nil)
    (pss_cons (ps_if (PW.pt (pw_or (pt_not (pt_val (pe_callB call_isi (by rfl) T.z_isinstance (by decide +kernel) (pa_cons (pv 1) (pa_cons (pe_bltn rfl T.z_tuple (by decide +kernel) (show RelV (V.ty "tuple") (Value.type "tuple") from rfl)) pa_nil))))) (pw_or (pt_not (pt_truth (pv 1) (by intro _; rfl))) (pw_or1 (pt_not (pt_val (pe_callB call_isi (by rfl) T.z_isinstance (by decide +kernel) (pa_cons (pe_ix ix_tup (pv 1) pe_int (fun _ _ => rfl)) (pa_cons (pe_bltn rfl T.z_str (by decide +kernel) (show RelV (V.ty "str") (Value.type "str") from rfl)) pa_nil))))))))) (pss_one (ps_ret pe_bl)) pss_nil)
    (pss_cons (ps_if (pt_cmpR op_ne (pe_dget2 hu (pv 0) (pe_ix ix_tup (pv 1) pe_int (fun _ _ => rfl)) (pe_un un_neg pe_int) ⟨rfl, rfl, rfl, rfl⟩) (pe_op op_sub (pe_callB call_len_seq (by rfl) T.z_len (by decide +kernel) (pa_cons (pv 1) pa_nil)) pe_int) (nomark _)) (pss_one (ps_ret pe_bl)) pss_nil)
    (pss_cons (ps_if (pt_cmpR op_notN (pe_meth (pv 3) T.cl_Kept T.me_Kept_pair_of G_Kept_pair_of hr_Kept_pair_of T.b_Kept_pair_of .nil pass0 (pa_cons (pv 1) pa_nil)) pe_non (nomark _)) (pss_one (ps_ret pe_bl)) pss_nil)
    (pss_cons (ps_for PassesOwn.never rfl (pi_tup (pe_slice sl_tup (pv 1) (po_some pe_int) po_none)) (pg_name (i := 4) sc_has_form.nd rfl (Or.inl rfl))
    (pss_one (ps_if (pt_not (pt_val (pe_call G_has_form hr_has_form rfl T.m_has_form T.F_has_form.kp T.b_has_form .nil pass0 (pa_cons (pv 0) (pa_cons (pv 4) (pa_cons (pv 2) (pa_cons (pv 3) pa_nil))))))) (pss_one (ps_ret pe_bl)) pss_nil)))
    (pss_cons (ps_expr (pe_meth (pv 3) T.cl_Kept T.me_Kept_keep G_Kept_keep hr_Kept_keep T.b_Kept_keep .nil pass0 (pa_cons (pv 1) (pa_cons pe_bl pa_nil))))
    (pss_one (ps_ret pe_bl)))))))), ?_⟩
    refine ⟨_, rfl, _, _, .type "str", .type "str", true, rfl, .ty _, .base (.str z), kSS, _, rfl, iteT ?_⟩
    refine ⟨_, rfl, true, rfl, iteT ⟨_, rfl, _, rfl, p, _, rfl, DGet.k (k := Sum.inr z) ep, ?_⟩⟩
    rw [no]
    exact q
def spTerm : Sp := fun vs H Q _ => ∃ (m p0 p1 : Addr) (o : Obj), vs = [.ref m, .str "a"] ∧ H m = some (.frz o (.tup [.ref p0, .ref p1])) ∧ o.dict = none ∧ H p0 = some (.tup [.str "z", .int 0]) ∧ H p1 = some (.tup [.str "s", .int 1]) ∧ ∀ H', Same H H' → Q (.bl true) H'
theorem ok_is_term (T : Txt K mg) (G_has_form : FnOk P w K mg base CX0 2 T.a_has_form T.d_has_form ["parts_by_word", "value", "may_have_names", "kept"] spForm) (G_Kept_init : FnOk P w K mg base CX0 1 T.a_Kept_init T.d_Kept_init ["self"] (spKInit T.c_Kept)) : FnOk P w K mg base CX0 3 T.a_is_term T.d_is_term ["makers", "value"] spTerm := by
  refine T.F_is_term.ok sc_is_term (fun vs H Q E h => ?_) (fun cdv A outer s H vs Q E hr h => ?_)
  · obtain ⟨m, p0, p1, o, rfl, _⟩ := h; rfl
  · obtain ⟨m, p0, p1, o, rfl, em, od, e0, e1, q⟩ := h
    have hr_has_form := hr
    have hr_Kept_init : Room 2 _ := hr
    refine ⟨_, (pss_one (ps_ret (pe_call G_has_form hr_has_form rfl T.m_has_form T.F_has_form.kp T.b_has_form .nil pass0 (pa_cons (pe_callTy (call_dictT rfl) (by rfl) T.z_dict (by decide +kernel) (pa_cons (pv 0) pa_nil)) (pa_cons (pv 1) (pa_cons pe_bl (pa_cons (pe_make0 T.mk_Kept G_Kept_init hr_Kept_init rfl T.mg_Kept T.b_Kept_init .nil pass0) pa_nil))))))), ?_⟩
    refine ⟨_, rfl, m, o, [p0, p1], [((Sum.inr "z" : Key), V.int 0), ((Sum.inr "s" : Key), V.int 1)], rfl, em, od, .cons (.inl (.inl e0)) (.cons (.inl (.inl e1)) .nil), fun p hp => ?_⟩
    have mm : mergeK [] [((Sum.inr "z" : Key), V.int 0), ((Sum.inr "s" : Key), V.int 1)] = [((Sum.inr "z" : Key), V.int 0), ((Sum.inr "s" : Key), V.int 1)] := rfl
    rw [mm]
    have s := same_upd hp (.dK [((Sum.inr "z" : Key), V.int 0), ((Sum.inr "s" : Key), V.int 1)])
    refine ⟨_, rfl, fun x dx hx hdx ndx => ?_⟩
    refine ⟨x, dx, rfl, upd_same, fun d hd => ⟨rfl, ?_⟩⟩
    generalize hH0 : upd H p (.dK [((Sum.inr "z" : Key), V.int 0), ((Sum.inr "s" : Key), V.int 1)]) = H0 at *
    have eP : H0 p = some (.dK [((Sum.inr "z" : Key), V.int 0), ((Sum.inr "s" : Key), V.int 1)]) := by rw [← hH0]; exact upd_same
    have z1 : Same H0 (upd H0 dx (.own x)) := same_upd hdx _
    have z2 : Same H0 (upd (upd H0 dx (.own x)) x (.ins T.c_Kept dx [])) := Kx.Same.own z1 hx _
    have z3 : Same H0 (upd (upd (upd H0 dx (.own x)) x (.ins T.c_Kept dx [])) d (.dK [])) := z2.trans (same_upd hd _)
    have z4 : Same H0 (upd (upd (upd (upd H0 dx (.own x)) x (.ins T.c_Kept dx [])) d (.dK [])) x (.ins T.c_Kept dx [("rows", .ref d)])) := Kx.Same.own z3 hx _
    exact ⟨p, x, _, "a", rfl, z4 _ _ eP, rfl, by decide +kernel, q _ (s.trans z4)⟩
def spKind : Sp := fun vs H Q _ => ∃ (tv v : V), vs = [tv, v] ∧ TabAt H tv ∧ Is H v (.tup [.str "Fa", .str "a"]) ∧ ∀ H', Same H H' → Q (.bl true) H'
theorem ok_is_kind (T : Txt K mg) (G_is_row : FnOk P w K mg base CX0 1 T.a_is_row T.d_is_row ["value", "many"] spRow) (G_is_term : FnOk P w K mg base CX0 3 T.a_is_term T.d_is_term ["makers", "value"] spTerm) (G_is_deeper : FnOk P w K mg base CX0 2 T.a_is_deeper T.d_is_deeper ["term", "most"] spDeep) (G_names_of : FnOk P w K mg base CX0 1 T.a_names_of T.d_names_of ["term"] (spNames 1)) (G_is_word : FnOk P w K mg base CX0 1 T.a_is_word T.d_is_word ["value"] spWord) : FnOk P w K mg base CX0 4 T.a_is_kind T.d_is_kind ["table", "value"] spKind := by
  refine T.F_is_kind.ok sc_is_kind (fun vs H Q E h => ?_) (fun cdv A outer s H vs Q E hr h => ?_)
  · obtain ⟨tv, v, rfl, _⟩ := h; rfl
  · obtain ⟨tv, v, rfl, hT, hI, q⟩ := h
    have hr_is_row := hr.mono (show 1 ≤ 3 by decide)
    have hr_is_term := hr
    have hr_is_deeper := hr.mono (show 2 ≤ 3 by decide)
    have hr_names_of := hr.mono (show 1 ≤ 3 by decide)
    have hr_is_word := hr.mono (show 1 ≤ 3 by decide)
    refine ⟨_, (pss_cons (ps_if (PW.pt (pw_or (pt_not (pt_val (pe_call G_is_row hr_is_row rfl T.m_is_row T.F_is_row.kp T.b_is_row .nil pass0 (pa_cons (pv 1) (pa_cons pe_int pa_nil))))) (pw_or1 (pt_cmpR op_notIn_seq (pe_ix ix_tup (pv 1) pe_int (fun _ _ => rfl)) (pe_ix ix_tup (pv 0) pe_int (fun _ _ => rfl)) (by rfl))))) (pss_one (ps_ret pe_bl)) pss_nil)
    (pss_cons (ps_if (PW.pt (pw_or (pt_not (pt_val (pe_call G_is_term hr_is_term rfl T.m_is_term T.F_is_term.kp T.b_is_term .nil pass0 (pa_cons (pe_ix ix_tup (pv 0) pe_int (fun _ _ => rfl)) (pa_cons (pe_ix ix_tup (pv 1) pe_int (fun _ _ => rfl)) pa_nil))))) (pw_or1 (pt_val (pe_call G_is_deeper hr_is_deeper rfl T.m_is_deeper T.F_is_deeper.kp T.b_is_deeper .nil pass0 (pa_cons (pe_ix ix_tup (pv 1) pe_int (fun _ _ => rfl)) (pa_cons (pe_glob (by rfl) T.g_MOST_DEEP (show RelV (V.int 4) (.int 4 T.t_MOST_DEEP) from ⟨_, rfl⟩)) pa_nil))))))) (pss_one (ps_ret pe_bl)) pss_nil)
    (pss_cons (ps_for PassesOwn.never rfl (pi_list (pe_call G_names_of hr_names_of rfl T.m_names_of T.F_names_of.kp T.b_names_of .nil pass0 (pa_cons (pe_ix ix_tup (pv 1) pe_int (fun _ _ => rfl)) pa_nil))) (pg_name (i := 2) sc_is_kind.nd rfl (Or.inl rfl))
    (pss_one (ps_if (pt_not (pt_val (pe_call G_is_word hr_is_word rfl T.m_is_word T.F_is_word.kp T.b_is_word .nil pass0 (pa_cons (pv 2) pa_nil)))) (pss_one (ps_ret pe_bl)) pss_nil)))
    (pss_one (ps_ret pe_bl))))), ?_⟩
    obtain ⟨t, m, p0, p1, f, c, o, rfl, e1, e2, e3, e4, e5, e6, iK⟩ := hT.ex
    obtain ⟨a, vs, rfl, ea, iL⟩ := hI.tup_inv
    obtain rfl : vs = [.str "Fa", .str "a"] := by
      cases iL with
      | cons x r => cases r with
        | cons y r => cases r; rw [x.str_inv, y.str_inv]
    have oka : sok "a" = true := by decide +kernel
    have awl : ("a" : Str) ∈ WL := by decide +kernel
    refine ⟨_, rfl, a, _, 2, rfl, ea, _, rfl, ite2 (fun z => absurd z (by simp)) (fun _ => ?_)⟩
    refine ⟨_, rfl, a, _, _, _, rfl, rfl, .inl (.inl ea), atI_nat (j := 0) rfl, _, rfl, t, _, _, _, rfl, rfl, .inl (.inl e1), atI_nat (j := 2) rfl, f, _, rfl, .inr (.inl (.inl e6)), rfl, rfl, _, rfl, ite2 (fun z => absurd z (by decide +kernel)) (fun _ => ?_)⟩
    refine ⟨_, rfl, t, _, _, _, rfl, rfl, .inl (.inl e1), atI_nat (j := 1) rfl, _, rfl, a, _, _, _, rfl, rfl, .inl (.inl ea), atI_nat (j := 1) rfl, m, p0, p1, o, rfl, e2, e3, e4, e5, fun H1 s1 => ⟨_, rfl, iteF ?_⟩⟩
    have ea1 := s1 _ _ ea
    refine ⟨_, rfl, a, _, _, _, rfl, rfl, .inl (.inl ea1), atI_nat (j := 1) rfl, "a", rfl, oka, _, rfl, iteF ?_⟩
    refine ⟨_, rfl, a, _, _, _, rfl, rfl, .inl (.inl ea1), atI_nat (j := 1) rfl, .str "a", .str "a", rfl, .str _ oka, trivial, Nat.le_refl 1, by decide, fun l H2 s2 el => ⟨l, rfl, ⟨_, SqL.of el⟩, ?_⟩⟩
    refine for_list (K := K) (a := l) (xs := [V.str "a"]) (fun i σ H3 => ∃ y2, σ = [some (.ref t), some (.ref a), y2] ∧ H3 = H2) ?_ ?_ ?_ ?_
    · exact ⟨none, rfl, rfl⟩
    · rintro i σ H3 _ ⟨_, _, rfl⟩
      exact SqL.of el
    · rintro i x σ H3 hx ⟨y2, rfl, rfl⟩
      obtain rfl : x = .str "a" := by
        have := List.mem_of_getElem? hx
        simpa using this
      exact ⟨_, rfl, "a", rfl, oka, awl, _, rfl, iteF ⟨_, rfl, rfl⟩⟩
    · rintro σ H3 ⟨y2, rfl, rfl⟩
      exact q H3 (s1.trans s2)
/-! ### the words of the table -/
def TW : List Str := ["z", "s", "Fa", "K0", "K1", "K2"]
def spWords : Sp := fun vs H Q _ => ∃ tv, vs = [tv] ∧ TabAt H tv ∧ ∀ l H', Same H H' → H' l = some (.lst (TW.map V.str)) → Q (.ref l) H'
theorem ok_words_of (T : Txt K mg)  : FnOk P w K mg base CX0 1 T.a_words_of T.d_words_of ["table"] spWords := by
  refine T.F_words_of.ok sc_words_of (fun vs H Q E h => ?_) (fun cdv A outer s H vs Q E hr h => ?_)
  · obtain ⟨tv, rfl, _⟩ := h; rfl
  · obtain ⟨tv, rfl, hT, q⟩ := h
    refine ⟨_, (pss_cons (ps_setLc (i := 1) (own := [("maker", 3)]) (g := (gName 3)) (tt := tYes) rfl sc_words_of.nd rfl rfl (sw_true rfl rfl rfl (by decide +kernel)) (pi_tup (pe_ix ix_tup (pv 0) pe_int (fun _ _ => rfl))) (blkOk_by (own := [("maker", 3)]) (N := ["table", "makers", "constructors", "maker", "constructor"]) (sc := defScope s_words_of) (by decide +kernel)) (fun _ _ _ _ _ => (pg_name (i := 3) sc_words_of.nd rfl (Or.inl rfl))) (fun _ _ _ _ _ => pts_nil) (fun _ _ _ _ _ => (pe_ix (ixTK (K := K)) (pv 3) pe_int (fun _ _ => rfl))))
    (pss_cons (ps_setLc (i := 2) (own := [("constructor", 4)]) (g := (gName 4)) (tt := tYes) rfl sc_words_of.nd rfl rfl (sw_true rfl rfl rfl (by decide +kernel)) (pi_tup (pe_ix ix_tup (pv 0) pe_int (fun _ _ => rfl))) (blkOk_by (own := [("constructor", 4)]) (N := ["table", "makers", "constructors", "maker", "constructor"]) (sc := defScope s_words_of) (by decide +kernel)) (fun _ _ _ _ _ => (pg_name (i := 4) sc_words_of.nd rfl (Or.inl rfl))) (fun _ _ _ _ _ => pts_nil) (fun _ _ _ _ _ => (pe_ix (ixTK (K := K)) (pv 4) pe_int (fun _ _ => rfl))))
    (pss_one (ps_ret (pe_op op_cat (pe_op op_cat (pv 1) (pe_callTy call_list_of (by rfl) T.z_list (by decide +kernel) (pa_cons (pe_ix ix_tup (pv 0) pe_int (fun _ _ => rfl)) pa_nil))) (pv 2)))))), ?_⟩
    obtain ⟨t, m, p0, p1, f, c, o, rfl, e1, e2, e3, e4, e5, e6, iK⟩ := hT.ex
    refine ⟨_, rfl, t, _, _, _, rfl, rfl, .inl (.inl e1), atI_nat (j := 1) rfl, m, rfl, ⟨_, .inl (.inr ⟨o, e2⟩)⟩, fun D hD => ?_⟩
    refine lc_tup (K := K) (a := m) (xs := [V.ref p0, V.ref p1]) (fun i H2 => Same H H2 ∧ H2 D = some (.lst (((["z", "s"] : List Str).take i).map V.str))) ?_ ?_ ?_ ?_
    · exact ⟨same_upd hD _, upd_same⟩
    · exact fun i H2 _ ⟨sm, _⟩ => .inl (.inr ⟨o, sm _ _ e2⟩)
    · rintro i x H2 hx ⟨sm, eD⟩
      have hi := (List.getElem?_eq_some_iff.mp hx).1
      have : i = 0 ∨ i = 1 := by simp at hi; omega
      rcases this with rfl | rfl
      · cases (Option.some.inj hx)
        exact ⟨rfl, yes_if ⟨_, rfl, p0, _, _, _, rfl, rfl, .inl (.inl (sm _ _ e4)), atI_nat (j := 0) rfl, _, eD, small1000 (by simp), Kx.Same.own sm hD _, by rw [upd_same]; rfl⟩⟩
      · cases (Option.some.inj hx)
        exact ⟨rfl, yes_if ⟨_, rfl, p1, _, _, _, rfl, rfl, .inl (.inl (sm _ _ e5)), atI_nat (j := 0) rfl, _, eD, small1000 (by simp), Kx.Same.own sm hD _, by rw [upd_same]; rfl⟩⟩
    rintro H2 ⟨s2, eD⟩
    have eD2 : H2 D = some (.lst ((["z", "s"] : List Str).map V.str)) := eD
    obtain ⟨_, vs, e0, ec, iF⟩ := (iK.same s2).tup_inv
    cases e0
    refine ⟨_, rfl, t, _, _, _, rfl, rfl, .inl (.inl (s2 _ _ e1)), atI_nat (j := 3) rfl, c, rfl, ⟨_, .inl (.inl ec)⟩, fun D2 hD2 => ?_⟩
    refine lc_tup (K := K) (a := c) (xs := vs) (fun i H3 => Same H2 H3 ∧ H3 D2 = some (.lst (((KA.take i).map (·.1)).map V.str))) ?_ ?_ ?_ ?_
    · exact ⟨same_upd hD2 _, upd_same⟩
    · exact fun i H3 _ ⟨sm, _⟩ => .inl (.inl (sm _ _ ec))
    · rintro i x H3 hx ⟨sm, eD3⟩
      obtain ⟨tt, et, it⟩ := iF.get hx
      rw [List.getElem?_map] at et
      obtain ⟨p, ep, rfl⟩ := Option.map_eq_some_iff.mp et
      obtain ⟨b, us, rfl, eb, iU⟩ := (it.same sm).tup_inv
      obtain ⟨u, us', rfl, hu0⟩ : ∃ u us', us = u :: us' ∧ u = V.str p.1 := by
        cases iU with
        | cons a r => exact ⟨_, _, rfl, a.str_inv⟩
      subst hu0
      refine ⟨rfl, yes_if ⟨_, rfl, b, _, _, _, rfl, rfl, .inl (.inl eb), atI_nat (j := 0) rfl, _, eD3, small1000 (by simp only [List.length_map, List.length_take]; have : KA.length = 3 := rfl; omega), Kx.Same.own sm hD2 _, ?_⟩⟩
      rw [upd_same, take_snoc ep, List.map_append, List.map_append]; rfl
    rintro H3 ⟨s3, eD3⟩
    have lF := iF.len
    rw [List.length_map] at lF
    rw [lF, List.take_length] at eD3
    have s23 := s2.trans s3
    refine ⟨_, rfl, _, rfl, t, _, _, _, rfl, rfl, .inl (.inl (s23 _ _ e1)), atI_nat (j := 2) rfl, f, _, rfl, .inr (.inl (.inl (s23 _ _ e6))), fun l hl => ?_⟩
    have s4 := same_upd hl (.lst [V.str "Fa"])
    refine ⟨D, l, _, _, rfl, rfl, s4 _ _ (s3 _ _ eD2), upd_same, by show 2 + 1 ≤ sizeLine; decide, fun l2 hl2 => ?_⟩
    have s5 := same_upd hl2 (.lst ((["z", "s"] : List Str).map V.str ++ [V.str "Fa"]))
    refine ⟨_, rfl, l2, D2, _, _, rfl, rfl, upd_same, s5 _ _ (s4 _ _ eD3), by show 3 + 3 ≤ sizeLine; decide, fun l3 hl3 => ?_⟩
    have s6 := same_upd hl3 (.lst (((["z", "s"] : List Str).map V.str ++ [V.str "Fa"]) ++ ((KA.map (·.1)).map V.str)))
    exact q l3 _ (((s23.trans s4).trans s5).trans s6) (by rw [upd_same]; rfl)
def cur : Nat → List V
  | 0 => []
  | _ + 1 => [.str "a"]
def spAsked : Sp := fun vs H Q _ => ∃ (a : Addr) (u0 u2 u3 u4 u5 : V) (pa : Addr) (n : Nat), vs = [.ref a] ∧ H a = some (.tup [u0, .ref pa, u2, u3, u4, u5]) ∧ Is H (.ref pa) (.tup (List.replicate n (.tup [.str "Fa", .str "a"]))) ∧ 1 ≤ n ∧ n ≤ 2 ∧ ∀ l H', Same H H' → H' l = some (.lst [.str "a"]) → Q (.ref l) H'
theorem ok_names_asked (T : Txt K mg) (G_names_of : FnOk P w K mg base CX0 1 T.a_names_of T.d_names_of ["term"] (spNames 1)) : FnOk P w K mg base CX0 2 T.a_names_asked T.d_names_asked ["function"] spAsked := by
  refine T.F_names_asked.ok sc_names_asked (fun vs H Q E h => ?_) (fun cdv A outer s H vs Q E hr h => ?_)
  · obtain ⟨a, u0, u2, u3, u4, u5, pa, n, rfl, _⟩ := h; rfl
  · obtain ⟨a, u0, u2, u3, u4, u5, pa, n, rfl, ea, hI, n1, n2, q⟩ := h
    have hr_names_of := hr
    refine ⟨_, (pss_cons (ps_set (i := 1) sc_names_asked.nd rfl (Or.inr rfl) (pe_lst pa_nil))
    (pss_cons (ps_for PassesOwn.never rfl (pi_tup (pe_ix ix_tup (pv 0) pe_int (fun _ _ => rfl))) (pg_tup rfl (pgs_cons (pg_name (i := 2) sc_names_asked.nd rfl (Or.inl rfl)) (pgs_cons (pg_name (i := 3) sc_names_asked.nd rfl (Or.inl rfl)) pgs_nil)))
    (pss_one (ps_expr (pe_bm PySem.F.plainAttrs_list PySem.F.slot_list_extend PySem.F.type_list_extend mt_extend (pv 1) (pa_cons (pe_lc (own := [("name", 4)]) (g := (gName 4)) rfl sc_names_asked.nd (pi_list (pe_call G_names_of hr_names_of rfl T.m_names_of T.F_names_of.kp T.b_names_of .nil pass0 (pa_cons (pv 3) pa_nil))) (blkOk_by (own := [("name", 4)]) (N := ["function", "found", "_", "term", "name"]) (sc := defScope s_names_asked) (by decide +kernel)) (fun _ _ _ _ _ => (pg_name (i := 4) sc_names_asked.nd rfl (Or.inl rfl))) (fun _ _ _ _ _ => pts_one (pt_cmpR (notInSeqK (K := K)) (pv 4) (pv 1) (by rfl))) (fun _ _ _ _ _ => (pv 4))) pa_nil)))))
    (pss_one (ps_ret (pv 1))))), ?_⟩
    have oka : sok "a" = true := by decide +kernel
    obtain ⟨_, ps, e0, ep, iP⟩ := hI.tup_inv
    cases e0
    have lP := iP.len
    rw [List.length_replicate] at lP
    refine ⟨(by show 0 ≤ sizeLine; decide), fun fa hf => ?_⟩
    have s1 := same_upd hf (.lst [])
    refine ⟨_, rfl, a, _, _, _, rfl, rfl, .inl (.inl (s1 _ _ ea)), atI_nat (j := 1) rfl, pa, rfl, ⟨_, .inl (.inl (s1 _ _ ep))⟩, ?_⟩
    refine for_tup (K := K) (a := pa) (xs := ps) (fun i σ H2 => ∃ y2 y3, σ = [some (.ref a), some (.ref fa), y2, y3, none] ∧ Same H H2 ∧ H2 fa = some (.lst (cur i))) ?_ ?_ ?_ ?_
    · exact ⟨none, none, rfl, s1, upd_same⟩
    · exact fun i σ H2 _ ⟨_, _, _, sm, _⟩ => .inl (.inl (sm _ _ ep))
    · rintro i x σ H2 hx ⟨y2, y3, rfl, sm, ef⟩
      obtain ⟨tt, et, it⟩ := iP.get hx
      have hm := List.mem_of_getElem? et
      rw [List.eq_of_mem_replicate hm] at it
      obtain ⟨b, us, rfl, eb, iU⟩ := (it.same sm).tup_inv
      obtain rfl : us = [.str "Fa", .str "a"] := by
        cases iU with
        | cons x r => cases r with
          | cons y r => cases r; rw [x.str_inv, y.str_inv]
      refine ⟨b, _, rfl, .inl (.inl eb), rfl, _, _, rfl, _, _, rfl, rfl, ?_⟩
      refine ⟨_, rfl, .inl ⟨rfl, _, SqL.of ef⟩, _, rfl, .str "a", .str "a", rfl, .str _ oka, trivial, Nat.le_refl 1, by decide, fun l H3 s3 el => ⟨l, rfl, ⟨_, SqL.of el⟩, fun D hD => ?_⟩⟩
      have sm3 := sm.trans s3
      have ef3 := s3 _ _ ef
      refine lc_list (K := K) (a := l) (xs := [V.str "a"]) (fun j H4 => Same H3 H4 ∧ H4 D = some (.lst (match j, i with | 0, _ => [] | _ + 1, 0 => [V.str "a"] | _ + 1, _ + 1 => []))) ?_ ?_ ?_ ?_
      · exact ⟨same_upd hD _, upd_same⟩
      · exact fun j H4 _ ⟨s4, _⟩ => SqL.of (s4 _ _ el)
      · rintro j x H4 hx2 ⟨s4, eD⟩
        have hj : j = 0 := by have := (List.getElem?_eq_some_iff.mp hx2).1; simp at this; exact this
        subst hj
        cases (Option.some.inj hx2)
        cases i with
        | zero =>
          refine ⟨rfl, _, rfl, _, rfl, fa, _, rfl, .inl (SqL.of (s4 _ _ ef3)), rfl, rfl, _, rfl, iteT ⟨_, rfl, [], eD, by show 0 < sizeLine; decide, Kx.Same.own s4 hD _, by rw [upd_same]; rfl⟩⟩
        | succ i =>
          exact ⟨rfl, _, rfl, _, rfl, fa, _, rfl, .inl (SqL.of (s4 _ _ ef3)), rfl, rfl, _, rfl, iteF ⟨s4, eD⟩⟩
      · rintro H4 ⟨s4, eD⟩
        have ef4 := s4 _ _ ef3
        cases i with
        | zero =>
          refine ⟨fa, D, _, _, rfl, rfl, ef4, eD, by show 0 + 1 ≤ sizeLine; decide, _, _, rfl, Kx.Same.own (sm3.trans s4) hf _, by rw [upd_same]; rfl⟩
        | succ i =>
          refine ⟨fa, D, _, _, rfl, rfl, ef4, eD, by show 1 + 0 ≤ sizeLine; decide, _, _, rfl, Kx.Same.own (sm3.trans s4) hf _, by rw [upd_same]; rfl⟩
    · rintro σ H2 ⟨y2, y3, rfl, sm, ef⟩
      obtain ⟨k, hk⟩ : ∃ k, ps.length = k + 1 := ⟨ps.length - 1, by omega⟩
      rw [hk] at ef
      exact ⟨_, rfl, q fa H2 sm ef⟩
end
end Kx
namespace Kx
open PySem PySem.Spec PyProof.Rows L2
section
variable {P : Program} {w : World} {K : PySem.W.Frag} {mg : Str → Option Value} {base : Heap}
set_option pp.maxSteps 900
theorem fn_kinds {H : Hp} {v : V} {f : Fn} (h : Is H v (fnPV f)) : ∃ a pa ca ps cs, v = .ref a ∧ H a = some (.tup [.str f.w, .ref pa, .str "Fa", .str "a", .int f.at_, .ref ca]) ∧ H pa = some (.tup ps) ∧ IsL H ps (List.replicate f.np (.tup [.str "Fa", .str "a"])) ∧ H ca = some (.tup cs) ∧ IsL H cs (f.cls.map clPV) ∧ sok f.w = true := by
  obtain ⟨a, us, rfl, e, hL⟩ := h.tup_inv
  cases hL with
  | @cons v0 _ _ _ h0 hL =>
  cases hL with
  | @cons v1 _ _ _ h1 hL =>
  cases hL with
  | @cons v2 _ _ _ h2 hL =>
  cases hL with
  | @cons v3 _ _ _ h3 hL =>
  cases hL with
  | @cons v4 _ _ _ h4 hL =>
  cases hL with
  | @cons v5 _ _ _ h5 hL =>
  cases hL
  obtain ⟨pa, ps, rfl, ep, iP⟩ := h1.tup_inv
  obtain ⟨ca, cs, rfl, ec, iC⟩ := h5.tup_inv
  cases h0 with
  | str _ k =>
  cases h2.str_inv
  cases h3.str_inv
  cases h4
  exact ⟨a, pa, ca, ps, cs, rfl, e, ep, iP, ec, iC, k⟩
def spHead : Sp := fun vs H Q _ => ∃ tv v f, vs = [tv, v] ∧ TabAt H tv ∧ Is H v (fnPV f) ∧ f.w ∈ WL ∧ 1 ≤ f.np ∧ f.np ≤ 2 ∧ 0 ≤ f.at_ ∧ f.at_ < (f.np : Int) ∧ f.cls.length ≤ 2 ∧ ∀ H', Same H H' → Q (.bl true) H'
theorem ok_is_headed (T : Txt K mg) (G_is_row : FnOk P w K mg base CX0 1 T.a_is_row T.d_is_row ["value", "many"] spRow) (G_is_word : FnOk P w K mg base CX0 1 T.a_is_word T.d_is_word ["value"] spWord) (G_is_kind : FnOk P w K mg base CX0 4 T.a_is_kind T.d_is_kind ["table", "value"] spKind) (G_is_integer : FnOk P w K mg base CX0 1 T.a_is_integer T.d_is_integer ["value"] spInt) (G_names_asked : FnOk P w K mg base CX0 2 T.a_names_asked T.d_names_asked ["function"] spAsked) (G_names_of : FnOk P w K mg base CX0 1 T.a_names_of T.d_names_of ["term"] (spNames 1)) : FnOk P w K mg base CX0 5 T.a_is_headed T.d_is_headed ["table", "value"] spHead := by
  refine T.F_is_headed.ok sc_is_headed (fun vs H Q E h => ?_) (fun cdv A outer s H vs Q E hr h => ?_)
  · obtain ⟨tv, v, f, rfl, _⟩ := h; rfl
  · obtain ⟨tv, v, f, rfl, hT, hI, hw, n1, n2, a1, a2, few, q⟩ := h
    have hr_is_row := hr.mono (show 1 ≤ 4 by decide)
    have hr_is_word := hr.mono (show 1 ≤ 4 by decide)
    have hr_is_kind := hr
    have hr_is_integer := hr.mono (show 1 ≤ 4 by decide)
    have hr_names_asked := hr.mono (show 2 ≤ 4 by decide)
    have hr_names_of := hr.mono (show 1 ≤ 4 by decide)
    refine ⟨_, (pss_cons (ps_if (PW.pt (pw_or (pt_not (pt_val (pe_call G_is_row hr_is_row rfl T.m_is_row T.F_is_row.kp T.b_is_row .nil pass0 (pa_cons (pv 1) (pa_cons pe_int pa_nil))))) (pw_or1 (pt_not (pt_val (pe_call G_is_word hr_is_word rfl T.m_is_word T.F_is_word.kp T.b_is_word .nil pass0 (pa_cons (pe_ix ix_tup (pv 1) pe_int (fun _ _ => rfl)) pa_nil))))))) (pss_one (ps_ret pe_bl)) pss_nil)
    (pss_cons (ps_asg (pv 1) (pg_tup rfl (pgs_cons (pg_name (i := 2) sc_is_headed.nd rfl (Or.inl rfl)) (pgs_cons (pg_name (i := 3) sc_is_headed.nd rfl (Or.inl rfl)) (pgs_cons (pg_name (i := 4) sc_is_headed.nd rfl (Or.inl rfl)) (pgs_cons (pg_name (i := 5) sc_is_headed.nd rfl (Or.inl rfl)) (pgs_cons (pg_name (i := 6) sc_is_headed.nd rfl (Or.inl rfl)) (pgs_cons (pg_name (i := 7) sc_is_headed.nd rfl (Or.inl rfl)) pgs_nil))))))))
    (pss_cons (ps_if (PW.pt (pw_or (pt_not (pt_val (pe_callB call_isi (by rfl) T.z_isinstance (by decide +kernel) (pa_cons (pv 3) (pa_cons (pe_bltn rfl T.z_tuple (by decide +kernel) (show RelV (V.ty "tuple") (Value.type "tuple") from rfl)) pa_nil))))) (pw_or1 (pt_not (pt_chain op_le op_le pe_int (pe_callB call_len_seq (by rfl) T.z_len (by decide +kernel) (pa_cons (pv 3) pa_nil)) (pe_glob (by rfl) T.g_MOST_PARTS (show RelV (V.int 3) (.int 3 T.t_MOST_PARTS) from ⟨_, rfl⟩)) (by with_unfolding_all rfl)))))) (pss_one (ps_ret pe_bl)) pss_nil)
    (pss_cons (ps_for PassesOwn.never rfl (pi_tup (pe_tup (StX.pa_star (pv 3) (pa_cons (pe_tup (pa_cons (pv 4) (pa_cons (pv 5) pa_nil))) pa_nil) (by rfl)))) (pg_name (i := 8) sc_is_headed.nd rfl (Or.inl rfl))
    (pss_one (ps_if (pt_not (pt_val (pe_call G_is_kind hr_is_kind rfl T.m_is_kind T.F_is_kind.kp T.b_is_kind .nil pass0 (pa_cons (pv 0) (pa_cons (pv 8) pa_nil))))) (pss_one (ps_ret pe_bl)) pss_nil)))
    (pss_cons (ps_if (PW.pt (pw_or (pt_not (pt_val (pe_call G_is_integer hr_is_integer rfl T.m_is_integer T.F_is_integer.kp T.b_is_integer .nil pass0 (pa_cons (pv 6) pa_nil)))) (pw_or1 (pt_not (pt_chain op_le op_lt pe_int (pv 6) (pe_callB call_len_seq (by rfl) T.z_len (by decide +kernel) (pa_cons (pv 3) pa_nil)) (by with_unfolding_all rfl)))))) (pss_one (ps_ret pe_bl)) pss_nil)
    (pss_cons (ps_if (PW.pt (pw_or (pt_not (pt_val (pe_callB call_isi (by rfl) T.z_isinstance (by decide +kernel) (pa_cons (pv 7) (pa_cons (pe_bltn rfl T.z_tuple (by decide +kernel) (show RelV (V.ty "tuple") (Value.type "tuple") from rfl)) pa_nil))))) (pw_or1 (pt_cmpR op_gt (pe_callB call_len_seq (by rfl) T.z_len (by decide +kernel) (pa_cons (pv 7) pa_nil)) (pe_glob (by rfl) T.g_MOST_CLAUSES (show RelV (V.int 12) (.int 12 T.t_MOST_CLAUSES) from ⟨_, rfl⟩)) (nomark _))))) (pss_one (ps_ret pe_bl)) pss_nil)
    (pss_cons (ps_set (i := 9) sc_is_headed.nd rfl (Or.inr rfl) (pe_call G_names_asked hr_names_asked rfl T.m_names_asked T.F_names_asked.kp T.b_names_asked .nil pass0 (pa_cons (pv 1) pa_nil)))
    (pss_one (ps_ret (pe_and (pe_cmpR op_le (pe_callB call_len_seq (by rfl) T.z_len (by decide +kernel) (pa_cons (pv 9) pa_nil)) (pe_glob (by rfl) T.g_MOST_NAMES (show RelV (V.int 4) (.int 4 T.t_MOST_NAMES) from ⟨_, rfl⟩)) (nomark _)) (pe_one (pe_cmpR op_notIn_seq pe_bl (pe_lc (own := [("name", 10)]) (g := (gName 10)) (tt := tYes) rfl sc_is_headed.nd (pi_list (pe_call G_names_of hr_names_of rfl T.m_names_of T.F_names_of.kp T.b_names_of .nil pass0 (pa_cons (pv 5) pa_nil))) (blkOk_by (own := [("name", 10)]) (N := ["table", "value", "_", "params", "family", "index", "falls", "clauses", "kind", "names", "name"]) (sc := defScope s_is_headed) (by decide +kernel)) (fun _ _ _ _ _ => (pg_name (i := 10) sc_is_headed.nd rfl (Or.inl rfl))) (fun _ _ _ _ _ => pts_nil) (fun _ _ _ _ _ => (pe_cmpR (inSeqK (K := K)) (pv 10) (pv 9) (by rfl)))) (by rfl))))))))))))), ?_⟩
    have oka : sok "a" = true := by decide +kernel
    have okF : sok "Fa" = true := by decide +kernel
    obtain ⟨a, pa, ca, ps, cs, rfl, ea, ep, iP, ec, iC, okw⟩ := fn_kinds hI
    have lP := iP.len
    rw [List.length_replicate] at lP
    have lC := iC.len
    rw [List.length_map] at lC
    refine ⟨_, rfl, a, _, 6, rfl, ea, _, rfl, ite2 (fun z => absurd z (by simp)) (fun _ => ?_)⟩
    refine ⟨_, rfl, a, _, _, _, rfl, rfl, .inl (.inl ea), atI_nat (j := 0) rfl, f.w, rfl, okw, hw, _, rfl, iteF ?_⟩
    refine ⟨_, rfl, a, _, rfl, .inl (.inl ea), rfl, _, _, rfl, _, _, rfl, _, _, rfl, _, _, rfl, _, _, rfl, _, _, rfl, rfl, ?_⟩
    refine ⟨_, rfl, _, _, .type "tuple", .type "tuple", true, rfl, .ty _, .base (.tup ep), kTT, _, rfl, iteF ?_⟩
    refine ⟨_, rfl, pa, ps, rfl, .inr (.inl (.inl ep)), _, _, rfl, rfl, _, rfl, ite2 (fun _ => ?_) (fun c1 => absurd (decide_eq_true (by omega)) c1)⟩
    refine ⟨_, _, rfl, rfl, _, rfl, ite2 (fun c1 => absurd c1 (by simp; omega)) (fun _ => ?_)⟩
    refine ⟨_, rfl, pa, ps, rfl, .inl (.inl (.inl ep)), _, rfl, _, rfl, (by show 2 ≤ sizeLine; decide), fun k1 hk1 => ⟨?_, fun k2 hk2 => ?_⟩⟩
    · show (ps ++ [V.ref k1]).length ≤ sizeLine
      rw [List.length_append, lP]
      exact Nat.le_of_lt (small1000 (by show f.np + 1 ≤ 1000; omega))
    have s1 := same_upd hk1 (.tup [.str "Fa", .str "a"])
    have s2 := same_upd hk2 (.tup (ps ++ [.ref k1]))
    have s12 := s1.trans s2
    have e2 : (upd (upd H k1 (.tup [.str "Fa", .str "a"])) k2 (.tup (ps ++ [.ref k1]))) k2 = some (.tup (ps ++ [.ref k1])) := upd_same
    have iK : IsL (upd (upd H k1 (.tup [.str "Fa", .str "a"])) k2 (.tup (ps ++ [.ref k1]))) (ps ++ [.ref k1]) (List.replicate (f.np + 1) (.tup [.str "Fa", .str "a"])) := by
      rw [List.replicate_succ']
      exact (iP.same s12).append (.cons (.tup (s2 _ _ upd_same) (.cons (.str _ okF) (.cons (.str _ oka) .nil))) .nil)
    generalize upd (upd H k1 (.tup [.str "Fa", .str "a"])) k2 (.tup (ps ++ [.ref k1])) = H2 at *
    refine ⟨k2, rfl, ⟨_, .inl (.inl e2)⟩, ?_⟩
    refine for_tup (K := K) (a := k2) (xs := ps ++ [.ref k1]) (fun i σ H3 => ∃ y8, σ = [some tv, some (.ref a), some (.str f.w), some (.ref pa), some (.str "Fa"), some (.str "a"), some (.int f.at_), some (.ref ca), y8, none, none] ∧ Same H2 H3) ?_ ?_ ?_ ?_
    · exact ⟨none, rfl, .refl _⟩
    · exact fun i σ H3 _ ⟨_, _, sm⟩ => .inl (.inl (sm _ _ e2))
    · rintro i x σ H3 hx ⟨y8, rfl, sm⟩
      obtain ⟨tt, et, it⟩ := iK.get hx
      rw [List.eq_of_mem_replicate (List.mem_of_getElem? et)] at it
      exact ⟨_, rfl, _, rfl, tv, x, rfl, (hT.same s12).same sm, it.same sm, fun H4 s4 => ⟨_, rfl, iteF ⟨_, rfl, sm.trans s4⟩⟩⟩
    rintro σ H3 ⟨y8, rfl, s3⟩
    have s13 := s12.trans s3
    refine ⟨_, rfl, f.at_, rfl, _, rfl, iteF ?_⟩
    refine ⟨_, rfl, _, _, rfl, rfl, _, rfl, ite2 (fun _ => ?_) (fun c1 => absurd (decide_eq_true (by omega)) c1)⟩
    refine ⟨_, rfl, pa, ps, rfl, .inr (.inl (.inl (s13 _ _ ep))), _, _, rfl, rfl, _, rfl, ite2 (fun c1 => absurd c1 (by simp; omega)) (fun _ => ?_)⟩
    refine ⟨_, rfl, _, _, .type "tuple", .type "tuple", true, rfl, .ty _, .base (.tup (s13 _ _ ec)), kTT, _, rfl, iteF ?_⟩
    refine ⟨_, rfl, ca, cs, rfl, .inr (.inl (.inl (s13 _ _ ec))), _, _, rfl, rfl, _, rfl, ite2 (fun c1 => absurd (of_decide_eq_true c1) (by omega)) (fun _ => ?_)⟩
    refine ⟨_, rfl, a, _, _, _, _, _, pa, f.np, rfl, s13 _ _ ea, .tup (s13 _ _ ep) (iP.same s13), n1, n2, fun l H4 s4 el => ?_⟩
    refine ⟨_, rfl, l, _, rfl, .inl (SqL.of el), _, _, rfl, rfl, _, rfl, iteT ?_⟩
    refine ⟨_, rfl, .str "a", .str "a", rfl, .str _ oka, trivial, Nat.le_refl 1, by decide, fun l2 H5 s5 el2 => ⟨l2, rfl, ⟨_, SqL.of el2⟩, fun D hD => ?_⟩⟩
    refine lc_list (K := K) (a := l2) (xs := [V.str "a"]) (fun j H6 => Same H5 H6 ∧ H6 D = some (.lst (List.replicate j (V.bl true)))) ?_ ?_ ?_ ?_
    · exact ⟨same_upd hD _, upd_same⟩
    · exact fun j H6 _ ⟨s6, _⟩ => SqL.of (s6 _ _ el2)
    · rintro j x H6 hx ⟨s6, eD⟩
      have hj := (List.getElem?_eq_some_iff.mp hx).1
      obtain rfl : x = .str "a" := by
        have := List.mem_of_getElem? hx
        simpa using this
      refine ⟨rfl, yes_if ⟨_, rfl, _, rfl, l, _, rfl, .inl (SqL.of (s6 _ _ (s5 _ _ el))), rfl, rfl, _, eD, small1000 (by rw [List.length_replicate]; have : j < 1 := hj; omega), Kx.Same.own s6 hD _, ?_⟩⟩
      rw [upd_same, List.replicate_succ']; rfl
    · rintro H6 ⟨s6, eD⟩
      exact ⟨D, _, rfl, .inl (SqL.of eD), rfl, rfl, q H6 (((s13.trans s4).trans s5).trans s6)⟩
end
end Kx
namespace Kx
open PySem PySem.Spec PyProof.Rows L2
section
variable {P : Program} {w : World} {K : PySem.W.Frag} {mg : Str → Option Value} {base : Heap}
set_option pp.maxSteps 900
/-! ### the scope -/
def scF (tv gv : V) (fd : Addr) (l : Int) : List (Str × V) := [("table", tv), ("program", gv), ("families", .ref fd), ("left", .int l)]
def famK (ns : List Str) : List (Key × V) := ns.map fun z => (Sum.inr z, .str "Fa")
structure ScAt (C : Addr) (fs : List Fn) (x fd dx : Addr) (tv gv : V) (l : Int) (ns : List Str) (H : Hp) : Prop where
  ins : H x = some (.ins C dx (scF tv gv fd l))
  fam : H fd = some (.dK (famK ns))
  tab : TabAt H tv
  prg : Is H gv (progPV fs)
  pg : PgG fs
  nm : ∀ z ∈ ns, z ∈ NM
  nd : ns.Nodup
def ExS (x fd : Addr) (H H' : Hp) : Prop := ∀ b o, b ≠ x → b ≠ fd → H b = some o → H' b = some o
theorem ExS.refl (x fd : Addr) (H : Hp) : ExS x fd H H := fun _ _ _ _ h => h
theorem ExS.trans {x fd : Addr} {H H1 H2 : Hp} (a : ExS x fd H H1) (b : ExS x fd H1 H2) : ExS x fd H H2 := fun c o n m h => b c o n m (a c o n m h)
theorem ExS.of {x fd : Addr} {H H' : Hp} (s : Same H H') : ExS x fd H H' := fun b o _ _ h => s b o h
section
variable {C : Addr} {fs : List Fn} {x fd dx : Addr} {tv gv : V} {l : Int} {ns : List Str} {H H' : Hp}
theorem ScAt.ne (S : ScAt C fs x fd dx tv gv l ns H) : x ≠ fd := fun e => by
  have := S.ins
  rw [e, S.fam] at this
  cases this
theorem ScAt.tk (S : ScAt C fs x fd dx tv gv l ns H) (e : ExS x fd H H') : Tk H H' := fun a vs h => e a _ (fun q => by rw [q, S.ins] at h; cases h) (fun q => by rw [q, S.fam] at h; cases h) h
theorem ScAt.tabs (S : ScAt C fs x fd dx tv gv l ns H) (e : ExS x fd H H') : TabAt H' tv := S.tab.keep fun b o h _ n2 n3 => e b o (fun q => by rw [q, S.ins] at h; exact n3 _ _ _ (Option.some.inj h).symm) (fun q => by rw [q, S.fam] at h; exact n2 _ (Option.some.inj h).symm) h
theorem ScAt.same (S : ScAt C fs x fd dx tv gv l ns H) (s : Same H H') : ScAt C fs x fd dx tv gv l ns H' := ⟨s _ _ S.ins, s _ _ S.fam, S.tab.same s, S.prg.same s, S.pg, S.nm, S.nd⟩
theorem ScAt.left (S : ScAt C fs x fd dx tv gv l ns H) (z : Int) : ScAt C fs x fd dx tv gv z ns (upd H x (.ins C dx (scF tv gv fd z))) ∧ ExS x fd H (upd H x (.ins C dx (scF tv gv fd z))) := by
  have e : ExS x fd H (upd H x (.ins C dx (scF tv gv fd z))) := fun b o n _ h => by rw [upd_ne n]; exact h
  exact ⟨⟨upd_same, by rw [upd_ne S.ne.symm]; exact S.fam, S.tabs e, S.prg.tk (S.tk e), S.pg, S.nm, S.nd⟩, e⟩
theorem ScAt.put (S : ScAt C fs x fd dx tv gv l ns H) {z : Str} (hz : z ∈ NM) (n : z ∉ ns) : ScAt C fs x fd dx tv gv l (ns ++ [z]) (upd H fd (.dK (famK (ns ++ [z])))) ∧ ExS x fd H (upd H fd (.dK (famK (ns ++ [z])))) := by
  have e : ExS x fd H (upd H fd (.dK (famK (ns ++ [z])))) := fun b o _ n h => by rw [upd_ne n]; exact h
  refine ⟨⟨by rw [upd_ne S.ne]; exact S.ins, upd_same, S.tabs e, S.prg.tk (S.tk e), S.pg, fun y hy => ?_, List.nodup_append.mpr ⟨S.nd, by simp, fun a ha b hb q => n (by rw [List.mem_singleton.mp hb] at q; exact q ▸ ha)⟩⟩, e⟩
  rcases List.mem_append.mp hy with h | h
  · exact S.nm y h
  · rw [List.mem_singleton.mp h]; exact hz
end
theorem fam_none {z : Str} : ∀ {ns : List Str}, z ∉ ns → valV (famK ns) (Sum.inr z) = none
  | [], _ => rfl
  | y :: r, h => by
    show valV ((Sum.inr y, V.str "Fa") :: famK r) (Sum.inr z) = none
    rw [valV_neg (fun e => h (by rw [Sum.inr.inj e]; exact List.mem_cons_self ..))]
    exact fam_none fun q => h (List.mem_cons_of_mem _ q)
theorem fam_some {z : Str} : ∀ {ns : List Str}, z ∈ ns → valV (famK ns) (Sum.inr z) = some (.str "Fa")
  | y :: r, h => by
    show valV ((Sum.inr y, V.str "Fa") :: famK r) (Sum.inr z) = _
    by_cases e : y = z
    · rw [valV_pos (by rw [e])]
    · rw [valV_neg (fun q => e (Sum.inr.inj q))]
      exact fam_some ((List.mem_cons.mp h).resolve_left fun q => e q.symm)
theorem fam_put {z : Str} {ns : List Str} (n : z ∉ ns) : putK (famK ns) (Sum.inr z) (.str "Fa") = famK (ns ++ [z]) := by
  rw [putK_new _ (fam_none n)]
  simp [famK]
def nx (b : Bool) (ns : List Str) (t : PV) : List Str := if b then ns ++ lv t else ns
def nxL (b : Bool) (ns : List Str) (ts : List PV) : List Str := if b then ns ++ lvL ts else ns
def OkT (b : Bool) (fs : List Fn) (ns : List Str) (t : PV) : Prop := if b then (Ap t ∧ (ns ++ lv t).Nodup ∧ ∀ z ∈ lv t, z ∈ NM) else BdOk (AR fs) ns t
def OkTL (b : Bool) (fs : List Fn) (ns : List Str) (ts : List PV) : Prop := if b then ((∀ t ∈ ts, Ap t) ∧ (ns ++ lvL ts).Nodup ∧ ∀ z ∈ lvL ts, z ∈ NM) else ∀ t ∈ ts, BdOk (AR fs) ns t
theorem lvL_take {ts : List PV} {i : Nat} {t : PV} (h : ts[i]? = some t) : lvL (ts.take (i + 1)) = lvL (ts.take i) ++ lv t := by rw [take_snoc h, lvL_snoc]
theorem okTL_at {b : Bool} {fs : List Fn} {ns : List Str} {ts : List PV} {i : Nat} {t : PV} (h : OkTL b fs ns ts) (e : ts[i]? = some t) : OkT b fs (nxL b ns (ts.take i)) t ∧ nx b (nxL b ns (ts.take i)) t = nxL b ns (ts.take (i + 1)) := by
  cases b with
  | false => exact ⟨h t (List.mem_of_getElem? e), rfl⟩
  | true =>
    obtain ⟨h1, h2, h3⟩ := (show (∀ t ∈ ts, Ap t) ∧ (ns ++ lvL ts).Nodup ∧ ∀ z ∈ lvL ts, z ∈ NM from h)
    have hm := List.mem_of_getElem? e
    have eq : ns ++ lvL (ts.take i) ++ lv t = ns ++ lvL (ts.take (i + 1)) := by rw [lvL_take e, List.append_assoc]
    refine ⟨⟨h1 t hm, ?_, fun z hz => h3 z (lvL_in hm hz)⟩, eq⟩
    show (ns ++ lvL (ts.take i) ++ lv t).Nodup
    rw [eq]
    have : ts = ts.take (i + 1) ++ ts.drop (i + 1) := (List.take_append_drop _ _).symm
    rw [this, lvL_append, ← List.append_assoc] at h2
    exact (List.nodup_append.mp h2).1
theorem tnL_take {ts : List PV} {i : Nat} {t : PV} (h : ts[i]? = some t) : tnL (ts.take (i + 1)) = tnL (ts.take i) + tn t := by
  have key : ∀ a b : List PV, tnL (a ++ b) = tnL a + tnL b := by
    intro a b
    induction a with
    | nil => simp [tnL]
    | cons x r ih => simp only [List.cons_append, tnL, ih]; omega
  rw [take_snoc h, key]; simp [tnL]
theorem tnL_part {ts : List PV} (i : Nat) : tnL (ts.take i) ≤ tnL ts := by
  have key : ∀ a b : List PV, tnL (a ++ b) = tnL a + tnL b := by
    intro a b
    induction a with
    | nil => simp [tnL]
    | cons x r ih => simp only [List.cons_append, tnL, ih]; omega
  have := key (ts.take i) (ts.drop i)
  rw [List.take_append_drop] at this
  omega
def spTest (C : Addr) (b : Bool) (n : Nat) : Sp := fun vs H Q _ => ∃ (x : Addr) (v : V) (fs : List Fn) (fd dx : Addr) (tv gv : V) (l : Int) (ns : List Str) (t : PV), vs = [.ref x, v, .str "Fa"] ∧ ScAt C fs x fd dx tv gv l ns H ∧ Is H v t ∧ OkT b fs ns t ∧ dep t ≤ n ∧ (tn t : Int) ≤ l ∧
  ∀ H', ExS x fd H H' → ScAt C fs x fd dx tv gv (l - tn t) (nx b ns t) H' → Q (.bl true) H'
def spParts (C g : Addr) (b : Bool) (n : Nat) : Sp := fun vs H Q _ => ∃ (x q : Addr) (v kv : V) (fs : List Fn) (fd dx : Addr) (tv gv : V) (l : Int) (ns : List Str) (w y : Str) (ts : List PV), vs = [.ref x, v, kv, .ref q] ∧ H q = some (.met g x) ∧ ScAt C fs x fd dx tv gv l ns H ∧ Is H v (.tup (.str w :: ts)) ∧ Is H kv (.tup (List.replicate ts.length (.tup [.str "Fa", .str y]))) ∧ ts.length ≤ 10 ∧ OkTL b fs ns ts ∧ depL ts ≤ n ∧ ((1 + tnL ts : Nat) : Int) ≤ l ∧
  ∀ H', ExS x fd H H' → ScAt C fs x fd dx tv gv (l - ((1 + tnL ts : Nat) : Int)) (nxL b ns ts) H' → Q (.bl true) H'
theorem ok_Scope_are_parts {n k : Nat} {b : Bool} {g : Addr} {fdt : FuncData} {pst : List Str} (T : Txt K mg) (G_test : FnOk P w K mg base CX0 k g fdt pst (spTest T.c_Scope b n)) (fi_test : PySem.W.fnIn K g = true) (b_test : Binds K fdt pst []) : FnOk P w K mg base CX0 (k + 1) T.a_Scope_are_parts T.d_Scope_are_parts ["self", "tree", "kinds", "test"] (spParts T.c_Scope g b n) := by
  refine T.F_Scope_are_parts.ok sc_Scope_are_parts (fun vs H Q E h => ?_) (fun cdv A outer s H vs Q E hr h => ?_)
  · obtain ⟨x, q, v, kv, fs, fd, dx, tv, gv, l, ns, w, y, ts, rfl, _⟩ := h; rfl
  · obtain ⟨x, q, v, kv, fs, fd, dx, tv, gv, l, ns, w, y, ts, rfl, eq, S, hI, hK, l10, okl, dp, lt, q1⟩ := h
    have hr_test := hr
    refine ⟨_, (pss_cons (ps_fldaug (pv 0) pe_int in_sub)
    (pss_cons (ps_if (PW.pt (pw_or (pt_cmpR op_lt (pe_fld (pv 0) rfl) pe_int (nomark _)) (pw_or1 (pt_cmpR op_ne (pe_callB call_len_seq (by rfl) T.z_len (by decide +kernel) (pa_cons (pv 1) pa_nil)) (pe_op op_add (pe_callB call_len_seq (by rfl) T.z_len (by decide +kernel) (pa_cons (pv 2) pa_nil)) pe_int) (nomark _))))) (pss_one (ps_ret pe_bl)) pss_nil)
    (pss_cons (ps_for PassesOwn.never rfl (RZ.pi_zipA (by rfl) T.z_zip (pa_cons (pe_slice sl_tup (pv 1) (po_some pe_int) po_none) (pa_cons (pv 2) pa_nil))) (pg_tup rfl (pgs_cons (pg_name (i := 4) sc_Scope_are_parts.nd rfl (Or.inl rfl)) (pgs_cons (pg_tup rfl (pgs_cons (pg_name (i := 5) sc_Scope_are_parts.nd rfl (Or.inl rfl)) (pgs_cons (pg_name (i := 6) sc_Scope_are_parts.nd rfl (Or.inl rfl)) pgs_nil))) pgs_nil)))
    (pss_one (ps_if (pt_not (pt_truth (KBm.pe_actM (i := 3) G_test hr_test fi_test b_test rfl (.inl rfl) (pa_cons (pv 4) (pa_cons (pv 5) pa_nil))) (by intro _; rfl))) (pss_one (ps_ret pe_bl)) pss_nil)))
    (pss_one (ps_ret pe_bl))))), ?_⟩
    obtain ⟨va, vs0, rfl, ev, iV⟩ := hI.tup_inv
    cases iV with
    | @cons wv us _ _ iw iT =>
    obtain ⟨ka, ks, rfl, ek, iK⟩ := hK.tup_inv
    have lT := iT.len
    have lK := iK.len
    rw [List.length_replicate] at lK
    refine ⟨_, rfl, x, T.c_Scope, dx, scF tv gv fd l, .int l, rfl, S.ins, T.cl_Scope, T.no_Scope_left, rfl, _, _, rfl, rfl, dx, scF tv gv fd l, S.ins, by show 4 < 1000; decide, ?_⟩
    obtain ⟨S1, x1⟩ := S.left (l - 1)
    have pf : putF "left" (V.int (l - 1)) (scF tv gv fd l) = scF tv gv fd (l - 1) := rfl
    rw [pf]
    have nxq : q ≠ x := fun e => by rw [e, S.ins] at eq; cases eq
    have nfq : q ≠ fd := fun e => by rw [e, S.fam] at eq; cases eq
    have tk1 := S.tk x1
    have eq1 := x1 _ _ nxq nfq eq
    have ev1 := tk1 _ _ ev
    have ek1 := tk1 _ _ ek
    generalize upd H x (.ins T.c_Scope dx (scF tv gv fd (l - 1))) = H1 at *
    refine ⟨_, rfl, x, T.c_Scope, dx, scF tv gv fd (l - 1), .int (l - 1), rfl, S1.ins, T.cl_Scope, T.no_Scope_left, rfl, _, _, rfl, rfl, _, rfl, ite2 (fun c1 => absurd (of_decide_eq_true c1) (by omega)) (fun _ => ?_)⟩
    refine ⟨_, rfl, va, _, rfl, .inr (.inl (.inl ev1)), _, rfl, ka, ks, rfl, .inr (.inl (.inl ek1)), _, _, rfl, rfl, rfl, _, rfl, ite2 (fun c1 => absurd c1 (by simp only [List.length_cons]; simp; omega)) (fun _ => ?_)⟩
    refine ⟨_, rfl, _, rfl, va, _, rfl, .inl (.inl ev1), slice1, fun p hp => ?_⟩
    rw [cut1]
    have s2 := same_upd hp (.tup us)
    have S2 := S1.same s2
    have x2 := x1.trans (.of s2)
    have eq2 := s2 _ _ eq1
    have ek2 := s2 _ _ ek1
    have ep2 : (upd H1 p (.tup us)) p = some (.tup us) := upd_same
    have iT2 := (iT.tk tk1).same s2
    have iK2 := (iK.tk tk1).same s2
    generalize upd H1 p (.tup us) = H2 at *
    refine ⟨_, rfl, p, ka, us, ks, rfl, .inr ⟨.inl (.inl ep2), .inl (.inl ek2), ?_⟩⟩
    refine RZ.for_zipT (K := K) (a := p) (b := ka) (xs := us) (ys := ks) (by omega) (fun i σ H3 => ∃ y4 y5 y6, σ = [some (.ref x), some (.ref va), some (.ref ka), some (.ref q), y4, y5, y6] ∧ ExS x fd H2 H3 ∧ ScAt T.c_Scope fs x fd dx tv gv (l - 1 - ((tnL (ts.take i) : Nat) : Int)) (nxL b ns (ts.take i)) H3) ?_ ?_ ?_ ?_
    · refine ⟨none, none, none, rfl, .refl _ _ _, ?_⟩
      have e : nxL b ns (ts.take 0) = ns := by cases b <;> simp [nxL, lvL]
      rw [e]
      simpa [tnL] using S2
    · rintro i σ H3 ⟨_, _, _, _, x3, _⟩
      have tk3 := S2.tk x3
      exact ⟨.inl (.inl (tk3 _ _ ep2)), .inl (.inl (tk3 _ _ ek2))⟩
    · rintro i u kx tt σ H3 hu hk ⟨y4, y5, y6, rfl, x3, S3⟩ htt
      obtain ⟨t, et, it⟩ := iT2.get hu
      obtain ⟨kk, ekk, ik⟩ := iK2.get hk
      rw [List.eq_of_mem_replicate (List.mem_of_getElem? ekk)] at ik
      have s4 := same_upd htt (.tup [u, kx])
      have tk3 := S2.tk x3
      have S4 := S3.same s4
      have e4 : (upd H3 tt (.tup [u, kx])) tt = some (.tup [u, kx]) := upd_same
      have it4 := (it.tk tk3).same s4
      have ik4 := (ik.tk tk3).same s4
      have eq4 := s4 _ _ (x3 _ _ nxq nfq eq2)
      have x4 : ExS x fd H2 (upd H3 tt (.tup [u, kx])) := x3.trans (.of s4)
      generalize upd H3 tt (.tup [u, kx]) = H4 at *
      obtain ⟨kb, kvs, rfl, ekb, iKB⟩ := ik4.tup_inv
      obtain rfl : kvs = [.str "Fa", .str y] := by
        cases iKB with
        | cons a r => cases r with
          | cons c r => cases r; rw [a.str_inv, c.str_inv]
      obtain ⟨ok1, nx1⟩ := okTL_at okl et
      have tt1 := tnL_take et
      have tt2 := tnL_part (ts := ts) (i + 1)
      refine ⟨tt, _, rfl, .inl (.inl e4), rfl, _, _, rfl, _, _, rfl, kb, _, rfl, .inl (.inl ekb), rfl, _, _, rfl, _, _, rfl, rfl, rfl, ?_⟩
      refine ⟨q, x, rfl, eq4, _, rfl, _, rfl, eq4, x, u, fs, fd, dx, tv, gv, _, _, t, rfl, S4, it4, ok1, Nat.le_trans (depL_mem (List.mem_of_getElem? et)) dp, by omega, fun H5 x5 S5 => ?_⟩
      refine ⟨true, rfl, iteF ⟨_, _, _, rfl, x4.trans x5, ?_⟩⟩
      rw [nx1] at S5
      rw [tt1]
      rw [show l - 1 - ((tnL (ts.take i) + tn t : Nat) : Int) = l - 1 - ((tnL (ts.take i) : Nat) : Int) - (tn t : Int) by omega]
      exact S5
    · rintro σ H3 ⟨y4, y5, y6, rfl, x3, S3⟩
      rw [lT, List.take_length] at S3
      refine q1 H3 (x2.trans x3) ?_
      rw [show l - ((1 + tnL ts : Nat) : Int) = l - 1 - ((tnL ts : Nat) : Int) by omega]
      exact S3
end
end Kx
namespace Kx
open PySem PySem.Spec PyProof.Rows L2
section
variable {P : Program} {w : World} {K : PySem.W.Frag} {mg : Str → Option Value} {base : Heap}
set_option pp.maxSteps 900
theorem nm_wl : ∀ z ∈ NM, z ∈ WL := by decide +kernel
theorem nm_con : ∀ z ∈ NM, conOf z = none := by decide +kernel
theorem nm_fw : ∀ z ∈ NM, ∀ i, i < 12 → z ≠ fw i := by decide +kernel
theorem fw_con : ∀ i, i < 12 → conOf (fw i) = none := by decide +kernel
theorem fw_wl : ∀ i, i < 12 → fw i ∈ WL := by decide +kernel
theorem ka_con : ∀ p ∈ KA, conOf p.1 = some p := by decide +kernel
theorem prg_name {fs : List Fn} (G : PgG fs) {z : Str} (h : z ∈ NM) : fs.find? (fun f => f.w == z) = none := by
  rw [List.find?_eq_none]
  intro f hf e
  obtain ⟨i, hi, ew⟩ := G.wd f hf
  have : f.w = z := by simpa using e
  exact nm_fw z h i hi (by rw [← this]; exact ew)
theorem pg_find {fs : List Fn} (G : PgG fs) {f : Fn} (h : f ∈ fs) : fs.find? (fun g => g.w == f.w) = some f := by
  obtain ⟨g, e, hg, ew⟩ := find_at (List.mem_map_of_mem (f := Fn.w) h)
  rw [e, fn_one G.g.nd hg h ew]
theorem row_inv {H : Hp} {v : V} {p : Str × Nat} (h : Is H v (rowPV p)) : ∃ a pa iv, v = .ref a ∧ H a = some (.tup [.str p.1, .ref pa, .str "Fa", iv]) ∧ Is H (.ref pa) (.tup (List.replicate p.2 (.tup [.str "Fa", .str "n"]))) := by
  obtain ⟨a, us, rfl, e, hL⟩ := h.tup_inv
  cases hL with
  | @cons v0 _ _ _ h0 hL =>
  cases hL with
  | @cons v1 _ _ _ h1 hL =>
  cases hL with
  | @cons v2 _ _ _ h2 hL =>
  cases hL with
  | @cons v3 _ _ _ h3 hL =>
  cases hL
  cases h0.str_inv
  cases h2.str_inv
  obtain ⟨pa, _, rfl, _, _⟩ := id h1.tup_inv
  exact ⟨a, pa, _, rfl, e, h1⟩
def spName (C : Addr) : Sp := fun vs H Q _ => ∃ (x : Addr) (z : Str) (fs : List Fn) (fd dx : Addr) (tv gv : V) (l : Int) (ns : List Str), vs = [.ref x, .str z, .str "Fa"] ∧ ScAt C fs x fd dx tv gv l ns H ∧ z ∈ NM ∧ z ∉ ns ∧ sok z = true ∧
  ∀ H', ExS x fd H H' → ScAt C fs x fd dx tv gv l (ns ++ [z]) H' → Q (.bl true) H'
theorem ok_Scope_take_name (T : Txt K mg) (G_is_word : FnOk P w K mg base CX0 1 T.a_is_word T.d_is_word ["value"] spWord) (G_constructor_of : FnOk P w K mg base CX0 1 T.a_constructor_of T.d_constructor_of ["table", "word"] spCon) (G_function_of : FnOk P w K mg base CX0 1 T.a_function_of T.d_function_of ["program", "word"] spFof) : FnOk P w K mg base CX0 2 T.a_Scope_take_name T.d_Scope_take_name ["self", "name", "family"] (spName T.c_Scope) := by
  refine T.F_Scope_take_name.ok sc_Scope_take_name (fun vs H Q E h => ?_) (fun cdv A outer s H vs Q E hr h => ?_)
  · obtain ⟨x, z, fs, fd, dx, tv, gv, l, ns, rfl, _⟩ := h; rfl
  · obtain ⟨x, z, fs, fd, dx, tv, gv, l, ns, rfl, S, hz, nz, ok, q⟩ := h
    have hu := hu_of hr
    have hr_is_word := hr
    have hr_constructor_of := hr
    have hr_function_of := hr
    have l5 : ns.length ≤ 5 := nodup_len S.nd S.nm
    refine ⟨_, (pss_cons (ps_if (PW.pt (pw_or (pt_not (pt_val (pe_call G_is_word hr_is_word rfl T.m_is_word T.F_is_word.kp T.b_is_word .nil pass0 (pa_cons (pv 1) pa_nil)))) (pw_or1 (pt_cmp (pc_din hu (pv 1) (pe_fld (pv 0) rfl)))))) (pss_one (ps_ret pe_bl)) pss_nil)
    (pss_cons (ps_if (PW.pt (pw_or (pt_cmpR op_notN (pe_call G_constructor_of hr_constructor_of rfl T.m_constructor_of T.F_constructor_of.kp T.b_constructor_of .nil pass0 (pa_cons (pe_fld (pv 0) rfl) (pa_cons (pv 1) pa_nil))) pe_non (nomark _)) (pw_or1 (pt_cmpR op_notN (pe_call G_function_of hr_function_of rfl T.m_function_of T.F_function_of.kp T.b_function_of .nil pass0 (pa_cons (pe_fld (pv 0) rfl) (pa_cons (pv 1) pa_nil))) pe_non (nomark _))))) (pss_one (ps_ret pe_bl)) pss_nil)
    (pss_cons (ps_dput hu (pe_fld (pv 0) rfl) (pv 1) (pv 2) rfl)
    (pss_one (ps_ret pe_bl))))), ?_⟩
    refine ⟨_, rfl, z, rfl, ok, nm_wl z hz, _, rfl, iteF ?_⟩
    refine ⟨_, rfl, _, rfl, x, _, dx, _, _, rfl, S.ins, T.cl_Scope, T.no_Scope_families, rfl, fd, _, rfl, DGet.k (k := Sum.inr z) S.fam, ?_⟩
    rw [fam_none nz]
    refine ⟨_, rfl, iteF ?_⟩
    refine ⟨_, rfl, x, _, dx, _, _, rfl, S.ins, T.cl_Scope, T.no_Scope_table, rfl, _, rfl, tv, z, rfl, S.tab, fun v' _ hn => ?_⟩
    obtain rfl := hn (nm_con z hz)
    refine ⟨rfl, _, rfl, iteF ?_⟩
    refine ⟨_, rfl, x, _, dx, _, _, rfl, S.ins, T.cl_Scope, T.no_Scope_program, rfl, _, rfl, gv, fs, z, rfl, S.prg, fun v' _ hn => ?_⟩
    obtain rfl := hn (prg_name S.pg hz)
    refine ⟨rfl, _, rfl, iteF ?_⟩
    refine ⟨_, rfl, _, rfl, x, _, dx, _, _, rfl, S.ins, T.cl_Scope, T.no_Scope_families, rfl, _, rfl, fd, _, rfl, DPut.k (k := Sum.inr z) S.fam (small1000 (by rw [famK, List.length_map]; omega)), ?_⟩
    rw [fam_put nz]
    obtain ⟨S1, x1⟩ := S.put hz nz
    exact q _ x1 S1
theorem ok_Scope_take_pattern {n k : Nat} (T : Txt K mg) (G_Scope_are_parts : FnOk P w K mg base CX0 (k+2) T.a_Scope_are_parts T.d_Scope_are_parts ["self", "tree", "kinds", "test"] (spParts T.c_Scope T.a_Scope_take_pattern true n)) (G_constructor_of : FnOk P w K mg base CX0 1 T.a_constructor_of T.d_constructor_of ["table", "word"] spCon) (G_Scope_take_name : FnOk P w K mg base CX0 2 T.a_Scope_take_name T.d_Scope_take_name ["self", "name", "family"] (spName T.c_Scope)) : FnOk P w K mg base CX0 (k+3) T.a_Scope_take_pattern T.d_Scope_take_pattern ["self", "pattern", "family"] (spTest T.c_Scope true (n+1)) := by
  refine T.F_Scope_take_pattern.ok sc_Scope_take_pattern (fun vs H Q E h => ?_) (fun cdv A outer s H vs Q E hr h => ?_)
  · obtain ⟨x, v, fs, fd, dx, tv, gv, l, ns, t, rfl, _⟩ := h; rfl
  · obtain ⟨x, v, fs, fd, dx, tv, gv, l, ns, t, rfl, S, hI, okt, dp, lt, q⟩ := h
    have hr_Scope_are_parts := hr
    have hr_constructor_of := hr.mono (show 1 ≤ k + 2 by omega)
    have hr_Scope_take_name := hr.mono (show 2 ≤ k + 2 by omega)
    refine ⟨_, (pss_cons (ps_if (pt_val (pe_callB call_isi (by rfl) T.z_isinstance (by decide +kernel) (pa_cons (pv 1) (pa_cons (pe_bltn rfl T.z_str (by decide +kernel) (show RelV (V.ty "str") (Value.type "str") from rfl)) pa_nil)))) (pss_one (ps_ret (pe_meth (pv 0) T.cl_Scope T.me_Scope_take_name G_Scope_take_name hr_Scope_take_name T.b_Scope_take_name .nil pass0 (pa_cons (pv 1) (pa_cons (pv 2) pa_nil))))) pss_nil)
    (pss_cons (ps_if (PW.pt (pw_or (pt_not (pt_val (pe_callB call_isi (by rfl) T.z_isinstance (by decide +kernel) (pa_cons (pv 1) (pa_cons (pe_bltn rfl T.z_tuple (by decide +kernel) (show RelV (V.ty "tuple") (Value.type "tuple") from rfl)) pa_nil))))) (pw_or1 (pt_not (pt_truth (pv 1) (by intro _; rfl)))))) (pss_one (ps_ret pe_bl)) pss_nil)
    (pss_cons (ps_set (i := 3) sc_Scope_take_pattern.nd rfl (Or.inl rfl) (pe_call G_constructor_of hr_constructor_of rfl T.m_constructor_of T.F_constructor_of.kp T.b_constructor_of .nil pass0 (pa_cons (pe_fld (pv 0) rfl) (pa_cons (pe_ix ix_tup (pv 1) pe_int (fun _ _ => rfl)) pa_nil))))
    (pss_cons (ps_if (PW.pt (pw_or (pt_cmpR op_isN (pv 3) pe_non (nomark _)) (pw_or1 (pt_cmpR op_ne (pe_ix ix_tup (pv 3) pe_int (fun _ _ => rfl)) (pv 2) (nomark _))))) (pss_one (ps_ret pe_bl)) pss_nil)
    (pss_one (ps_ret (pe_meth (pv 0) T.cl_Scope T.me_Scope_are_parts G_Scope_are_parts hr_Scope_are_parts T.b_Scope_are_parts .nil pass0 (pa_cons (pv 1) (pa_cons (pe_ix ix_tup (pv 3) pe_int (fun _ _ => rfl)) (pa_cons (KBm.pe_bound (pv 0) T.cl_Scope T.bm_Scope_take_pattern) pa_nil)))))))))), ?_⟩
    obtain ⟨ap, nd, nm⟩ := (show Ap t ∧ (ns ++ lv t).Nodup ∧ ∀ z ∈ lv t, z ∈ NM from okt)
    cases t with
    | int i => exact absurd ap (by simp [Ap])
    | str z =>
      obtain ⟨ok, rfl⟩ : sok z = true ∧ v = .str z := by cases hI with | str _ k => exact ⟨k, rfl⟩
      refine ⟨_, rfl, _, _, .type "str", .type "str", true, rfl, .ty _, .base (.str z), kSS, _, rfl, iteT ?_⟩
      refine ⟨_, rfl, x, dx, _, rfl, S.ins, rfl, _, rfl, _, rfl, x, z, fs, fd, dx, tv, gv, l, ns, rfl, S, nm z (by simp [lv]), fun hz => ?_, ok, fun H' x' S' => ?_⟩
      · have := (List.nodup_append.mp nd).2.2 z hz z (by simp [lv])
        exact this rfl
      · refine q H' x' ?_
        show ScAt T.c_Scope fs x fd dx tv gv (l - ((0 : Nat) : Int)) (ns ++ [z]) H'
        simpa using S'
    | tup ts0 =>
      obtain ⟨w0, ts, rfl⟩ : ∃ w0 ts, ts0 = .str w0 :: ts := by
        match ts0, ap with
        | .str w :: r, _ => exact ⟨w, r, rfl⟩
        | [], h => exact h.elim
        | .int _ :: _, h => exact h.elim
        | .tup _ :: _, h => exact h.elim
      obtain ⟨ka, apl⟩ := (show (w0, ts.length) ∈ KA ∧ ApL ts from ap)
      have k2 := KA_two ka
      obtain ⟨va, vs, rfl, ev, iL⟩ := id hI.tup_inv
      cases iL with
      | @cons u0 us _ _ h0 hL =>
      cases h0.str_inv
      refine ⟨_, rfl, _, _, .type "tuple", .type "str", false, rfl, .ty _, .base (.tup ev), kTS, _, rfl, iteF ?_⟩
      refine ⟨_, rfl, _, _, .type "tuple", .type "tuple", true, rfl, .ty _, .base (.tup ev), kTT, _, rfl, iteF ⟨_, rfl, true, .inr (.inl ⟨_, .inl (.inl ev), rfl⟩), iteF ?_⟩⟩
      refine ⟨_, rfl, x, _, dx, _, _, rfl, S.ins, T.cl_Scope, T.no_Scope_table, rfl, _, rfl, va, _, _, _, rfl, rfl, .inl (.inl ev), atI_nat (j := 0) rfl, tv, w0, rfl, S.tab, fun v' hs _ => ?_⟩
      obtain ⟨ra, pa, iv, rfl, era, ipa⟩ := row_inv (hs _ (ka_con _ ka))
      refine ⟨_, rfl, rfl, _, rfl, iteF ?_⟩
      refine ⟨_, rfl, ra, _, _, _, rfl, rfl, .inl (.inl era), atI_nat (j := 2) rfl, _, rfl, rfl, _, rfl, iteF ?_⟩
      rw [dep_cons] at dp
      refine ⟨_, rfl, x, dx, _, rfl, S.ins, rfl, _, rfl, _, rfl, ra, _, _, _, rfl, rfl, .inl (.inl era), atI_nat (j := 1) rfl, _, rfl, x, dx, _, rfl, S.ins, rfl, fun q0 hq => ?_⟩
      have s1 := same_upd hq (.met T.a_Scope_take_pattern x)
      refine ⟨x, q0, .ref va, .ref pa, fs, fd, dx, tv, gv, l, ns, w0, "n", ts, rfl, upd_same, S.same s1, hI.same s1, ipa.same s1, by omega, ⟨mem_ApL apl, nd, nm⟩, by omega, lt, fun H' x' S' => ?_⟩
      exact q H' ((ExS.of s1).trans x') S'
theorem ok_Scope_has_body {n k : Nat} (T : Txt K mg) (G_Scope_are_parts : FnOk P w K mg base CX0 (k+2) T.a_Scope_are_parts T.d_Scope_are_parts ["self", "tree", "kinds", "test"] (spParts T.c_Scope T.a_Scope_has_body false n)) (G_constructor_of : FnOk P w K mg base CX0 1 T.a_constructor_of T.d_constructor_of ["table", "word"] spCon) (G_function_of : FnOk P w K mg base CX0 1 T.a_function_of T.d_function_of ["program", "word"] spFof) : FnOk P w K mg base CX0 (k+3) T.a_Scope_has_body T.d_Scope_has_body ["self", "body", "family"] (spTest T.c_Scope false (n+1)) := by
  refine T.F_Scope_has_body.ok sc_Scope_has_body (fun vs H Q E h => ?_) (fun cdv A outer s H vs Q E hr h => ?_)
  · obtain ⟨x, v, fs, fd, dx, tv, gv, l, ns, t, rfl, _⟩ := h; rfl
  · obtain ⟨x, v, fs, fd, dx, tv, gv, l, ns, t, rfl, S, hI, okt, dp, lt, q⟩ := h
    have hr_Scope_are_parts := hr
    have hr_constructor_of := hr.mono (show 1 ≤ k + 2 by omega)
    have hr_function_of := hr.mono (show 1 ≤ k + 2 by omega)
    have hu := hu_of hr
    refine ⟨_, (pss_cons (ps_if (pt_val (pe_callB call_isi (by rfl) T.z_isinstance (by decide +kernel) (pa_cons (pv 1) (pa_cons (pe_bltn rfl T.z_str (by decide +kernel) (show RelV (V.ty "str") (Value.type "str") from rfl)) pa_nil)))) (pss_one (ps_ret (pe_cmpR op_eq (pe_dget1 hu (pe_fld (pv 0) rfl) (pv 1) ⟨rfl, rfl, rfl, rfl⟩) (pv 2) (nomark _)))) pss_nil)
    (pss_cons (ps_if (PW.pt (pw_or (pt_not (pt_val (pe_callB call_isi (by rfl) T.z_isinstance (by decide +kernel) (pa_cons (pv 1) (pa_cons (pe_bltn rfl T.z_tuple (by decide +kernel) (show RelV (V.ty "tuple") (Value.type "tuple") from rfl)) pa_nil))))) (pw_or1 (pt_not (pt_truth (pv 1) (by intro _; rfl)))))) (pss_one (ps_ret pe_bl)) pss_nil)
    (pss_cons (ps_set (i := 3) sc_Scope_has_body.nd rfl (Or.inl rfl) (pe_call G_constructor_of hr_constructor_of rfl T.m_constructor_of T.F_constructor_of.kp T.b_constructor_of .nil pass0 (pa_cons (pe_fld (pv 0) rfl) (pa_cons (pe_ix ix_tup (pv 1) pe_int (fun _ _ => rfl)) pa_nil))))
    (pss_cons (ps_set (i := 4) sc_Scope_has_body.nd rfl (Or.inl rfl) (pe_call G_function_of hr_function_of rfl T.m_function_of T.F_function_of.kp T.b_function_of .nil pass0 (pa_cons (pe_fld (pv 0) rfl) (pa_cons (pe_ix ix_tup (pv 1) pe_int (fun _ _ => rfl)) pa_nil))))
    (pss_cons (ps_if (pt_cmpR op_notN (pv 3) pe_non (nomark _)) (pss_one (ps_ret (pe_and (pe_cmpR op_eq (pe_ix ix_tup (pv 3) pe_int (fun _ _ => rfl)) (pv 2) (nomark _)) (pe_one (pe_meth (pv 0) T.cl_Scope T.me_Scope_are_parts G_Scope_are_parts hr_Scope_are_parts T.b_Scope_are_parts .nil pass0 (pa_cons (pv 1) (pa_cons (pe_ix ix_tup (pv 3) pe_int (fun _ _ => rfl)) (pa_cons (KBm.pe_bound (pv 0) T.cl_Scope T.bm_Scope_has_body) pa_nil)))))))) pss_nil)
    (pss_one (ps_ret (pe_and (pe_cmpR op_notN (pv 4) pe_non (nomark _)) (pe_and (pe_cmpR op_eq (pe_ix ix_tup (pv 4) pe_int (fun _ _ => rfl)) (pv 2) (nomark _)) (pe_one (pe_meth (pv 0) T.cl_Scope T.me_Scope_are_parts G_Scope_are_parts hr_Scope_are_parts T.b_Scope_are_parts .nil pass0 (pa_cons (pv 1) (pa_cons (pe_ix ix_tup (pv 4) pe_int (fun _ _ => rfl)) (pa_cons (KBm.pe_bound (pv 0) T.cl_Scope T.bm_Scope_has_body) pa_nil)))))))))))))), ?_⟩
    have bd : BdOk (AR fs) ns t := okt
    cases t with
    | int i => exact absurd bd (by simp [BdOk])
    | str z =>
      obtain rfl := hI.str_inv
      have hz : z ∈ ns := bd
      refine ⟨_, rfl, _, _, .type "str", .type "str", true, rfl, .ty _, .base (.str z), kSS, _, rfl, iteT ?_⟩
      refine ⟨_, rfl, x, _, dx, _, _, rfl, S.ins, T.cl_Scope, T.no_Scope_families, rfl, fd, rfl, .inl ⟨_, .inl S.fam⟩, _, rfl, _, DGet.k (k := Sum.inr z) S.fam, ?_⟩
      rw [fam_some hz]
      refine ⟨_, rfl, rfl, ?_⟩
      refine q H (.refl _ _ _) ?_
      show ScAt T.c_Scope fs x fd dx tv gv (l - ((0 : Nat) : Int)) ns H
      simpa using S
    | tup ts0 =>
      obtain ⟨w0, ts, rfl⟩ : ∃ w0 ts, ts0 = .str w0 :: ts := by
        match ts0, bd with
        | .str w :: r, _ => exact ⟨w, r, rfl⟩
        | [], h => exact h.elim
        | .int _ :: _, h => exact h.elim
        | .tup _ :: _, h => exact h.elim
      obtain ⟨ka, apl⟩ := (show (w0, ts.length) ∈ AR fs ∧ BdOkL (AR fs) ns ts from bd)
      obtain ⟨va, vs, rfl, ev, iL⟩ := id hI.tup_inv
      cases iL with
      | @cons u0 us _ _ h0 hL =>
      cases h0.str_inv
      refine ⟨_, rfl, _, _, .type "tuple", .type "str", false, rfl, .ty _, .base (.tup ev), kTS, _, rfl, iteF ?_⟩
      refine ⟨_, rfl, _, _, .type "tuple", .type "tuple", true, rfl, .ty _, .base (.tup ev), kTT, _, rfl, iteF ⟨_, rfl, true, .inr (.inl ⟨_, .inl (.inl ev), rfl⟩), iteF ?_⟩⟩
      refine ⟨_, rfl, x, _, dx, _, _, rfl, S.ins, T.cl_Scope, T.no_Scope_table, rfl, _, rfl, va, _, _, _, rfl, rfl, .inl (.inl ev), atI_nat (j := 0) rfl, tv, w0, rfl, S.tab, fun v' hs hn => ?_⟩
      refine ⟨_, rfl, x, _, dx, _, _, rfl, S.ins, T.cl_Scope, T.no_Scope_program, rfl, _, rfl, va, _, _, _, rfl, rfl, .inl (.inl ev), atI_nat (j := 0) rfl, gv, fs, w0, rfl, S.prg, fun v2 hs2 hn2 => ?_⟩
      rw [dep_cons] at dp
      rcases List.mem_append.mp ka with ka | ka
      · have k2 := KA_two ka
        obtain ⟨ra, pa, iv, rfl, era, ipa⟩ := row_inv (hs _ (ka_con _ ka))
        refine ⟨_, rfl, rfl, _, rfl, iteT ?_⟩
        refine ⟨_, rfl, ra, _, _, _, rfl, rfl, .inl (.inl era), atI_nat (j := 2) rfl, _, rfl, rfl, _, rfl, iteT ?_⟩
        refine ⟨_, rfl, x, dx, _, rfl, S.ins, rfl, _, rfl, _, rfl, ra, _, _, _, rfl, rfl, .inl (.inl era), atI_nat (j := 1) rfl, _, rfl, x, dx, _, rfl, S.ins, rfl, fun q0 hq => ?_⟩
        have s1 := same_upd hq (.met T.a_Scope_has_body x)
        exact ⟨x, q0, .ref va, .ref pa, fs, fd, dx, tv, gv, l, ns, w0, "n", ts, rfl, upd_same, S.same s1, hI.same s1, ipa.same s1, by omega, mem_BdOkL apl, by omega, lt, fun H' x' S' => q H' ((ExS.of s1).trans x') S'⟩
      · obtain ⟨f, hf, ef⟩ := List.mem_map.mp ka
        obtain ⟨rfl, en⟩ : f.w = w0 ∧ f.np = ts.length := ⟨congrArg Prod.fst ef, congrArg Prod.snd ef⟩
        obtain ⟨i, hi, ew⟩ := S.pg.wd f hf
        obtain rfl := hn (by rw [ew]; exact fw_con i hi)
        have np := (S.pg.g.fn f hf).np
        obtain ⟨ra, pa, ca, ps, cs, rfl, era, ep, iP, ec, iC, okw⟩ := fn_kinds (hs2 f (pg_find S.pg hf))
        refine ⟨_, rfl, rfl, _, rfl, iteF ?_⟩
        refine ⟨_, rfl, rfl, _, rfl, iteT ?_⟩
        refine ⟨_, rfl, ra, _, _, _, rfl, rfl, .inl (.inl era), atI_nat (j := 2) rfl, _, rfl, rfl, _, rfl, iteT ?_⟩
        refine ⟨_, rfl, x, dx, _, rfl, S.ins, rfl, _, rfl, _, rfl, ra, _, _, _, rfl, rfl, .inl (.inl era), atI_nat (j := 1) rfl, _, rfl, x, dx, _, rfl, S.ins, rfl, fun q0 hq => ?_⟩
        have s1 := same_upd hq (.met T.a_Scope_has_body x)
        exact ⟨x, q0, .ref va, .ref pa, fs, fd, dx, tv, gv, l, ns, f.w, "a", ts, rfl, upd_same, S.same s1, hI.same s1, .tup (s1 _ _ ep) (by rw [← en]; exact iP.same s1), by omega, mem_BdOkL apl, by omega, lt, fun H' x' S' => q H' ((ExS.of s1).trans x') S'⟩
end
end Kx
namespace Kx
open PySem PySem.Spec PyProof.Rows L2
section
variable {P : Program} {w : World} {K : PySem.W.Frag} {mg : Str → Option Value} {base : Heap}
set_option pp.maxSteps 900
def spSInit (C : Addr) : Sp := fun vs H Q _ => ∃ (x dx : Addr) (tv gv : V), vs = [.ref x, tv, gv] ∧ H x = some (.ins C dx []) ∧ ∀ fd H', H fd = none → (∀ b o, b ≠ x → H b = some o → H' b = some o) → H' x = some (.ins C dx (scF tv gv fd 0)) → H' fd = some (.dK []) → Q .non H'
theorem ok_Scope_init (T : Txt K mg)  : FnOk P w K mg base CX0 1 T.a_Scope_init T.d_Scope_init ["self", "table", "program"] (spSInit T.c_Scope) := by
  refine T.F_Scope_init.ok sc_Scope_init (fun vs H Q E h => ?_) (fun cdv A outer s H vs Q E hr h => ?_)
  · obtain ⟨x, dx, tv, gv, rfl, _⟩ := h; rfl
  · obtain ⟨x, dx, tv, gv, rfl, e, q⟩ := h
    refine ⟨_, (pss_cons (ps_fld (pv 0) (pv 1) rfl)
    (pss_cons (ps_fld (pv 0) (pv 2) rfl)
    (pss_cons (ps_fld (pv 0) pe_dnewK rfl)
    (pss_one (ps_fld (pv 0) pe_int rfl))))), ?_⟩
    refine ⟨_, rfl, _, rfl, x, T.c_Scope, dx, [], rfl, e, T.cl_Scope, T.no_Scope_table, by decide, ?_⟩
    refine ⟨_, rfl, _, rfl, x, T.c_Scope, dx, _, rfl, upd_same, T.cl_Scope, T.no_Scope_program, (by show 1 < 1000; decide), ?_⟩
    refine fun fd hfd => ?_
    have nf : x ≠ fd := ne_of_none upd_same hfd
    have hfd0 : H fd = none := by
      rw [upd_ne nf.symm, upd_ne nf.symm] at hfd
      exact hfd
    refine ⟨_, rfl, x, T.c_Scope, dx, _, rfl, (by rw [upd_ne nf, upd_same]), T.cl_Scope, T.no_Scope_families, (by show 2 < 1000; decide), ?_⟩
    refine ⟨_, rfl, x, T.c_Scope, dx, _, rfl, upd_same, T.cl_Scope, T.no_Scope_left, (by show 3 < 1000; decide), ?_⟩
    refine q fd _ hfd0 (fun b o n h => ?_) upd_same (by rw [upd_ne nf.symm, upd_ne nf.symm, upd_same])
    have nb : b ≠ fd := fun z => by rw [z, hfd0] at h; cases h
    rw [upd_ne n, upd_ne n, upd_ne nb, upd_ne n, upd_ne n]
    exact h
def spClause : Sp := fun vs H Q _ => ∃ (tv gv fv cv : V) (fs : List Fn) (f : Fn) (c : Cl), vs = [tv, gv, fv, cv] ∧ TabAt H tv ∧ Is H gv (progPV fs) ∧ PgG fs ∧ f ∈ fs ∧ c ∈ f.cls ∧ Is H fv (fnPV f) ∧ Is H cv (clPV c) ∧ ∀ H', Same H H' → Q (.bl true) H'
theorem ok_is_clause (T : Txt K mg) (G_is_row : FnOk P w K mg base CX0 1 T.a_is_row T.d_is_row ["value", "many"] spRow) (G_Scope_init : FnOk P w K mg base CX0 1 T.a_Scope_init T.d_Scope_init ["self", "table", "program"] (spSInit T.c_Scope)) (G_Scope_take_pattern : FnOk P w K mg base CX0 7 T.a_Scope_take_pattern T.d_Scope_take_pattern ["self", "pattern", "family"] (spTest T.c_Scope true 3)) (G_Scope_has_body : FnOk P w K mg base CX0 11 T.a_Scope_has_body T.d_Scope_has_body ["self", "body", "family"] (spTest T.c_Scope false 5)) : FnOk P w K mg base CX0 12 T.a_is_clause T.d_is_clause ["table", "program", "function", "value"] spClause := by
  refine T.F_is_clause.ok sc_is_clause (fun vs H Q E h => ?_) (fun cdv A outer s H vs Q E hr h => ?_)
  · obtain ⟨tv, gv, fv, cv, fs, f, c, rfl, _⟩ := h; rfl
  · obtain ⟨tv, gv, fv, cv, fs, f, c, rfl, hT, hG, G, hf, hc, hF, hC, q⟩ := h
    have hr_is_row := hr.mono (show 1 ≤ 11 by decide)
    have hr_Scope_init : Room 2 _ := hr.mono (show 2 ≤ 11 by decide)
    have hr_Scope_take_pattern := hr.mono (show 7 ≤ 11 by decide)
    have hr_Scope_has_body := hr
    refine ⟨_, (pss_cons (ps_if (pt_not (pt_val (pe_call G_is_row hr_is_row rfl T.m_is_row T.F_is_row.kp T.b_is_row .nil pass0 (pa_cons (pv 3) (pa_cons pe_int pa_nil))))) (pss_one (ps_ret pe_bl)) pss_nil)
    (pss_cons (ps_asg (pv 3) (pg_tup rfl (pgs_cons (pg_name (i := 4) sc_is_clause.nd rfl (Or.inl rfl)) (pgs_cons (pg_name (i := 5) sc_is_clause.nd rfl (Or.inl rfl)) pgs_nil))))
    (pss_cons (ps_if (pt_not (pt_val (pe_call G_is_row hr_is_row rfl T.m_is_row T.F_is_row.kp T.b_is_row .nil pass0 (pa_cons (pv 4) (pa_cons (pe_callB call_len_seq (by rfl) T.z_len (by decide +kernel) (pa_cons (pe_ix ix_tup (pv 2) pe_int (fun _ _ => rfl)) pa_nil)) pa_nil))))) (pss_one (ps_ret pe_bl)) pss_nil)
    (pss_cons (ps_set (i := 6) sc_is_clause.nd rfl (Or.inl rfl) (pe_make T.mk_Scope G_Scope_init hr_Scope_init rfl T.mg_Scope T.b_Scope_init .nil pass0 (pa_cons (pv 0) (pa_cons (pv 1) pa_nil))))
    (pss_cons (ps_fld (pv 6) (pe_glob (by rfl) T.g_MOST_PATTERN (show RelV (V.int 6) (.int 6 T.t_MOST_PATTERN) from ⟨_, rfl⟩)) rfl)
    (pss_cons (ps_for PassesOwn.never rfl (RZ.pi_zipA (by rfl) T.z_zip (pa_cons (pv 4) (pa_cons (pe_ix ix_tup (pv 2) pe_int (fun _ _ => rfl)) pa_nil))) (pg_tup rfl (pgs_cons (pg_name (i := 7) sc_is_clause.nd rfl (Or.inl rfl)) (pgs_cons (pg_tup rfl (pgs_cons (pg_name (i := 8) sc_is_clause.nd rfl (Or.inl rfl)) (pgs_cons (pg_name (i := 9) sc_is_clause.nd rfl (Or.inl rfl)) pgs_nil))) pgs_nil)))
    (pss_one (ps_if (pt_not (pt_truth (pe_meth (pv 6) T.cl_Scope T.me_Scope_take_pattern G_Scope_take_pattern hr_Scope_take_pattern T.b_Scope_take_pattern .nil pass0 (pa_cons (pv 7) (pa_cons (pv 8) pa_nil))) (by intro _; rfl))) (pss_one (ps_ret pe_bl)) pss_nil)))
    (pss_cons (ps_fld (pv 6) (pe_glob (by rfl) T.g_MOST_BODY (show RelV (V.int 30) (.int 30 T.t_MOST_BODY) from ⟨_, rfl⟩)) rfl)
    (pss_one (ps_ret (pe_meth (pv 6) T.cl_Scope T.me_Scope_has_body G_Scope_has_body hr_Scope_has_body T.b_Scope_has_body .nil pass0 (pa_cons (pv 5) (pa_cons (pe_ix ix_tup (pv 2) pe_int (fun _ _ => rfl)) pa_nil)))))))))))), ?_⟩
    obtain ⟨a, pa, ca, ks, cs, rfl, ea, ep, iP, ec, iC, okw⟩ := fn_kinds hF
    obtain ⟨b, qa, ps, bv, rfl, eb, eq, iQ, iB⟩ := cl_inv hC
    have CG := (G.g.fn f hf).cl c hc
    have np := (G.g.fn f hf).np
    have lK := iP.len
    rw [List.length_replicate] at lK
    have lQ := iQ.len
    have lc := CG.len
    have tn4 : tnL c.ps ≤ 4 := by
      have key : ∀ l : List PV, (∀ p ∈ l, cnt p ≤ 5) → tnL l ≤ 2 * l.length := by
        intro l
        induction l with
        | nil => intro _; simp [tnL]
        | cons t r ih =>
          intro h
          have h1 := h t (List.mem_cons_self ..)
          have h2 := ih fun p hp => h p (List.mem_cons_of_mem _ hp)
          have h3 := tn_cnt t
          simp only [tnL, List.length_cons]; omega
      have := key c.ps fun p hp => (CG.pat p hp).2.2
      omega
    have okl : OkTL true fs [] c.ps := ⟨fun t ht => (CG.pat t ht).1, by simpa using CG.nms, G.nm f hf c hc⟩
    refine ⟨_, rfl, b, _, 2, rfl, eb, _, rfl, ite2 (fun z => absurd z (by simp)) (fun _ => ?_)⟩
    refine ⟨_, rfl, b, _, rfl, .inl (.inl eb), rfl, _, _, rfl, _, _, rfl, rfl, ?_⟩
    refine ⟨_, rfl, _, rfl, a, _, _, _, rfl, rfl, .inl (.inl ea), atI_nat (j := 1) rfl, pa, ks, rfl, .inr (.inl (.inl ep)), qa, ps, _, rfl, eq, _, rfl, ite2 (fun z => absurd z (by simp; omega)) (fun _ => ?_)⟩
    refine ⟨_, rfl, _, rfl, fun x dx hx hdx ndx => ?_⟩
    refine ⟨x, dx, tv, gv, rfl, upd_same, fun fd H1 hfd keep1 ex efd => ⟨rfl, ?_⟩⟩
    have nxf : fd ≠ x := fun z => by rw [z, upd_same] at hfd; cases hfd
    have ndf : fd ≠ dx := fun z => by
      rw [z, upd_ne ndx, upd_same] at hfd; cases hfd
    have hfd0 : H fd = none := by rw [upd_ne nxf, upd_ne ndf] at hfd; exact hfd
    have s1 : Same H H1 := fun b o h => keep1 b o (ne_of_none h hx) (by rw [upd_ne (ne_of_none h hx), upd_ne (ne_of_none h hdx)]; exact h)
    have S1 : ScAt T.c_Scope fs x fd dx tv gv 0 [] H1 := ⟨ex, efd, hT.same s1, hG.same s1, G, (fun z h => by cases h), List.nodup_nil⟩
    refine ⟨_, rfl, x, T.c_Scope, dx, _, rfl, S1.ins, T.cl_Scope, T.no_Scope_left, (by show 4 < 1000; decide), ?_⟩
    obtain ⟨S2, x2⟩ := S1.left 6
    have pf : putF "left" (V.int 6) (scF tv gv fd 0) = scF tv gv fd 6 := rfl
    rw [pf]
    have tk2 := S1.tk x2
    have eq2 := tk2 _ _ (s1 _ _ eq)
    have ea2 := tk2 _ _ (s1 _ _ ea)
    have ep2 := tk2 _ _ (s1 _ _ ep)
    have iQ2 := (iQ.same s1).tk tk2
    have iB2 := (iB.same s1).tk tk2
    have iP2 := (iP.same s1).tk tk2
    generalize upd H1 x (.ins T.c_Scope dx (scF tv gv fd 6)) = H2 at *
    refine ⟨_, rfl, _, rfl, a, _, _, _, rfl, rfl, .inl (.inl ea2), atI_nat (j := 1) rfl, qa, pa, ps, ks, rfl, .inr ⟨.inl (.inl eq2), .inl (.inl ep2), ?_⟩⟩
    refine RZ.for_zipT (K := K) (a := qa) (b := pa) (xs := ps) (ys := ks) (by omega) (fun i σ H3 => ∃ y7 y8 y9, σ = [some tv, some gv, some (.ref a), some (.ref b), some (.ref qa), some bv, some (.ref x), y7, y8, y9] ∧ ExS x fd H2 H3 ∧ ScAt T.c_Scope fs x fd dx tv gv (6 - ((tnL (c.ps.take i) : Nat) : Int)) (nxL true [] (c.ps.take i)) H3) ?_ ?_ ?_ ?_
    · exact ⟨none, none, none, rfl, .refl _ _ _, by simpa [tnL, nxL, lvL] using S2⟩
    · rintro i σ H3 ⟨_, _, _, _, x3, _⟩
      have tk3 := S2.tk x3
      exact ⟨.inl (.inl (tk3 _ _ eq2)), .inl (.inl (tk3 _ _ ep2))⟩
    · rintro i u kx tt σ H3 hu hk ⟨y7, y8, y9, rfl, x3, S3⟩ htt
      obtain ⟨t, et, it⟩ := iQ2.get hu
      obtain ⟨kk, ekk, ik⟩ := iP2.get hk
      rw [List.eq_of_mem_replicate (List.mem_of_getElem? ekk)] at ik
      have s4 := same_upd htt (.tup [u, kx])
      have tk3 := S2.tk x3
      have S4 := S3.same s4
      have e4 : (upd H3 tt (.tup [u, kx])) tt = some (.tup [u, kx]) := upd_same
      have it4 := (it.tk tk3).same s4
      have ik4 := (ik.tk tk3).same s4
      have x4 : ExS x fd H2 (upd H3 tt (.tup [u, kx])) := x3.trans (.of s4)
      generalize upd H3 tt (.tup [u, kx]) = H4 at *
      obtain ⟨kb, kvs, rfl, ekb, iKB⟩ := ik4.tup_inv
      obtain rfl : kvs = [.str "Fa", .str "a"] := by
        cases iKB with
        | cons a r => cases r with
          | cons c r => cases r; rw [a.str_inv, c.str_inv]
      obtain ⟨ok1, nx1⟩ := okTL_at okl et
      have tt1 := tnL_take et
      have tt2 := tnL_part (ts := c.ps) (i + 1)
      refine ⟨tt, _, rfl, .inl (.inl e4), rfl, _, _, rfl, _, _, rfl, kb, _, rfl, .inl (.inl ekb), rfl, _, _, rfl, _, _, rfl, rfl, rfl, ?_⟩
      refine ⟨_, rfl, x, dx, _, rfl, S4.ins, rfl, _, rfl, _, rfl, x, u, fs, fd, dx, tv, gv, _, _, t, rfl, S4, it4, ok1, (CG.pat t (List.mem_of_getElem? et)).2.1, by omega, fun H5 x5 S5 => ?_⟩
      refine ⟨true, rfl, iteF ⟨_, _, _, rfl, x4.trans x5, ?_⟩⟩
      rw [nx1] at S5
      rw [tt1, show (6 : Int) - ((tnL (c.ps.take i) + tn t : Nat) : Int) = 6 - ((tnL (c.ps.take i) : Nat) : Int) - (tn t : Int) by omega]
      exact S5
    · rintro σ H3 ⟨y7, y8, y9, rfl, x3, S3⟩
      rw [lQ, List.take_length] at S3
      have tk3 := S2.tk x3
      have bd := G.bd f hf c hc
      have b2 := tn_cnt c.body
      have b3 := CG.body
      refine ⟨_, rfl, x, T.c_Scope, dx, _, rfl, S3.ins, T.cl_Scope, T.no_Scope_left, (by show 4 < 1000; decide), ?_⟩
      obtain ⟨S4, x4⟩ := S3.left 30
      have pf : putF "left" (V.int 30) (scF tv gv fd (6 - ((tnL c.ps : Nat) : Int))) = scF tv gv fd 30 := rfl
      rw [pf]
      have tk4 := S3.tk x4
      refine ⟨_, rfl, x, dx, _, rfl, S4.ins, rfl, _, rfl, _, rfl, a, _, _, _, rfl, rfl, .inl (.inl (tk4 _ _ (tk3 _ _ ea2))), atI_nat (j := 2) rfl, x, bv, fs, fd, dx, tv, gv, _, _, c.body, rfl, S4, (iB2.tk tk3).tk tk4, ?_, b3.2.1, by omega, fun H5 x5 S5 => ?_⟩
      · show BdOk (AR fs) ([] ++ lvL c.ps) c.body
        exact bd
      · refine q H5 fun b o h => ?_
        have n1 : b ≠ x := ne_of_none h hx
        have n2 : b ≠ fd := ne_of_none h hfd0
        exact x5 _ _ n1 n2 (x4 _ _ n1 n2 (x3 _ _ n1 n2 (x2 _ _ n1 n2 (s1 _ _ h))))
end
end Kx
namespace Kx
open PySem PySem.Spec PyProof.Rows L2
section
variable {P : Program} {w : World} {K : PySem.W.Frag} {mg : Str → Option Value} {base : Heap}
set_option pp.maxSteps 900
theorem cr_lenZ {X : Cx} : CallR X (.builtin "len") (fun vs H Q => ∃ (a : Addr) (zs : List Str), vs = [.ref a] ∧ H a = some (ZO X.prog X.w a zs) ∧ zs.length ≤ 1000 ∧ Q (.int (zs.length : Nat)) H) := by
  intro pins s σ H vs us Q I r h
  obtain ⟨a, zs, rfl, ha, few, q⟩ := h
  obtain ⟨⟨es, ep, t⟩, e, T, L, nd⟩ := setZ_get I ha
  have sz : es.size = zs.length := T.sz
  rw [Vals.ref1 r]
  refine call_len_set e ⟨rfl, rfl, rfl⟩ rfl T.fit (by show ((es.size : Nat) : Int) < 2 ^ 63; rw [sz]; have : (2 : Int) ^ 63 = 9223372036854775808 := rfl; omega) ?_
  refine ⟨.int (zs.length : Nat), H, I.kept (t' := s.toks + 1 + 1) fun b o e => e, ?_, q⟩
  show RelV (V.int ((zs.length : Nat) : Int)) (Value.int ((es.size : Nat) : Int) (s.toks + 1))
  rw [sz]
  exact ⟨_, rfl⟩
/-! ### falling -/
theorem ar_np {fs : List Fn} (G : PgG fs) {f : Fn} (hf : f ∈ fs) {n : Nat} (h : (f.w, n) ∈ AR fs) : n = f.np := by
  rcases List.mem_append.mp h with h | h
  · obtain ⟨i, hi, ew⟩ := G.wd f hf
    have := ka_con _ h
    rw [show ((f.w, n) : Str × Nat).1 = f.w from rfl, ew, fw_con i hi] at this
    cases this
  · obtain ⟨g, hg, e⟩ := List.mem_map.mp h
    obtain ⟨e1, e2⟩ : g.w = f.w ∧ g.np = n := ⟨congrArg Prod.fst e, congrArg Prod.snd e⟩
    rw [← fn_one G.g.nd hg hf e1]
    exact e2.symm
theorem isIn_iff {x : PV} {ws : List Str} : isIn x ws = true ↔ ∃ z, x = .str z ∧ z ∈ ws := by
  cases x with
  | str z => simp [isIn]
  | int i => simp [isIn]
  | tup l => simp [isIn]
theorem fall_iff {fs : List Fn} (G : PgG fs) {f g : Fn} {c : Cl} {n x p : PV} {r : List PV} (hg : g ∈ fs) (e : g.w = wd n) (hin : InG fs f.w g.w) (en : n = .tup (.str (wd n) :: r)) (hx : r[g.at_.toNat]? = some x) (hp : c.ps[f.at_.toNat]? = some p) : FallC fs f c n ↔ isIn x (below p) = true := by
  rw [isIn_iff]
  constructor
  · intro h
    exact h g hg e hin r en x hx p hp
  · rintro h g' hg' e' _ r' en' x' hx' p' hp'
    obtain rfl := fn_one G.g.nd hg' hg (e'.trans e.symm)
    rw [en] at en'
    have e3 := (List.cons.inj (PV.tup.inj en')).2
    subst e3
    rw [hx] at hx'
    cases hx'
    rw [hp] at hp'
    cases hp'
    exact h
theorem fall_no {fs : List Fn} {f : Fn} {c : Cl} {n : PV} (h : ¬ InG fs f.w (wd n)) : FallC fs f c n := fun g _ e hin => absurd (e ▸ hin) h
/-- the part that must be a name -/
theorem fall_at {fs : List Fn} (G : PgG fs) {f g : Fn} {c : Cl} {n : PV} (hf : f ∈ fs) (hc : c ∈ f.cls) (hn : n ∈ nd c.body) (hg : g ∈ fs) (e : g.w = wd n) : ∃ r x p, n = .tup (.str (wd n) :: r) ∧ r.length = g.np ∧ r[g.at_.toNat]? = some x ∧ c.ps[f.at_.toNat]? = some p := by
  obtain ⟨r, en⟩ := nd_inv hn
  have bd := bdOk_nd (G.bd f hf c hc) hn
  rw [en] at bd
  have ar : (wd n, r.length) ∈ AR fs := bd.1
  rw [← e] at ar
  have lr := ar_np G hg ar
  have a1 := G.at_ g hg
  have a2 := G.at_ f hf
  have lc := ((G.g.fn f hf).cl c hc).len
  have h1 : g.at_.toNat < r.length := by omega
  have h2 : f.at_.toNat < c.ps.length := by omega
  exact ⟨r, _, _, en, lr, List.getElem?_eq_getElem h1, List.getElem?_eq_getElem h2⟩
theorem inG_word {fs : List Fn} {f : Fn} (hf : f ∈ fs) {y : Str} (h : InG fs f.w y) : y ∈ fs.map Fn.w := by
  rcases h with rfl | ⟨h, _⟩
  · exact List.mem_map_of_mem hf
  · exact reach_word h
def spCF : Sp := fun vs H Q _ => ∃ (gv pv0 bv : V) (ga : Addr) (fs : List Fn) (f : Fn) (c : Cl) (p : PV) (ys : List Str), vs = [gv, .ref ga, pv0, bv] ∧ Is H gv (progPV fs) ∧ PgG fs ∧ f ∈ fs ∧ c ∈ f.cls ∧ H ga = some (.tup (ys.map V.str)) ∧ (∀ y, y ∈ ys ↔ InG fs f.w y) ∧ c.ps[f.at_.toNat]? = some p ∧ Is H pv0 p ∧ Is H bv c.body ∧
  ∀ r H', Same H H' → (r = true ↔ ∀ n ∈ nd c.body, FallC fs f c n) → Q (.bl r) H'
theorem ok_are_calls_falling (T : Txt K mg) (G_nodes_of : FnOk P w K mg base CX0 1 T.a_nodes_of T.d_nodes_of ["body"] spNodesN) (G_function_of : FnOk P w K mg base CX0 1 T.a_function_of T.d_function_of ["program", "word"] spFof) (G_names_in : FnOk P w K mg base CX0 2 T.a_names_in T.d_names_in ["pattern"] (spNamesIn 12)) : FnOk P w K mg base CX0 3 T.a_are_calls_falling T.d_are_calls_falling ["program", "group", "pattern", "body"] spCF := by
  refine T.F_are_calls_falling.ok sc_are_calls_falling (fun vs H Q E h => ?_) (fun cdv A outer s H vs Q E hr h => ?_)
  · obtain ⟨gv, pv0, bv, ga, fs, f, c, p, ys, rfl, _⟩ := h; rfl
  · obtain ⟨gv, pv0, bv, ga, fs, f, c, p, ys, rfl, hG, G, hf, hc, eg, my, hp, iP, iB, q⟩ := h
    have hr_nodes_of := hr.mono (show 1 ≤ 2 by decide)
    have hr_function_of := hr.mono (show 1 ≤ 2 by decide)
    have hr_names_in := hr
    refine ⟨_, (Evl.pss_cut (ps_set (i := 4) sc_are_calls_falling.nd rfl (Or.inl rfl) (pe_ifExp (pt_val (pe_callB call_isi (by rfl) T.z_isinstance (by decide +kernel) (pa_cons (pv 2) (pa_cons (pe_bltn rfl T.z_tuple (by decide +kernel) (show RelV (V.ty "tuple") (Value.type "tuple") from rfl)) pa_nil)))) (pe_call G_names_in hr_names_in rfl T.m_names_in T.F_names_in.kp T.b_names_in .nil pass0 (pa_cons (pv 2) pa_nil)) (pe_tup pa_nil)))
    (pss_cons (ps_for PassesOwn.never rfl (pi_list (pe_call G_nodes_of hr_nodes_of rfl T.m_nodes_of T.F_nodes_of.kp T.b_nodes_of .nil pass0 (pa_cons (pv 3) pa_nil))) (pg_name (i := 5) sc_are_calls_falling.nd rfl (Or.inl rfl))
    (pss_one (ps_if (pt_cmpR op_in_seq (pe_ix ix_tup (pv 5) pe_int (fun _ _ => rfl)) (pv 1) (by rfl)) (pss_one (ps_if (pt_cmpR (notInD (u200 hr)) (pe_ix ix_tup (pv 5) (pe_op op_add (pe_ix ix_tup (pe_call G_function_of hr_function_of rfl T.m_function_of T.F_function_of.kp T.b_function_of .nil pass0 (pa_cons (pv 0) (pa_cons (pe_ix ix_tup (pv 5) pe_int (fun _ _ => rfl)) pa_nil))) pe_int (fun _ _ => rfl)) pe_int) (fun _ _ => rfl)) (pv 4) (by rfl)) (pss_one (ps_ret pe_bl)) pss_nil)) pss_nil)))
    (pss_one (ps_ret pe_bl)))), ?_⟩
    have CG := (G.g.fn f hf).cl c hc
    have PG := CG.pat p (List.mem_of_getElem? hp)
    refine ⟨fun σ H1 => ∃ a, σ = [some gv, some (.ref ga), some pv0, some bv, some (.ref a), none] ∧ Same H H1 ∧ H1 a = some (.tup ((below p).map V.str)) ∧ ∀ z ∈ below p, sok z = true, ?_, ?_⟩
    · cases p with
      | int i => exact absurd PG.1 (by simp [Ap])
      | str z =>
        obtain rfl := iP.str_inv
        refine ⟨_, rfl, _, _, .type "str", .type "tuple", false, rfl, .ty _, .base (.str z), kST, _, rfl, iteF ⟨(by show 0 ≤ sizeLine; decide), fun a ha => ?_⟩⟩
        exact ⟨a, rfl, same_upd ha _, upd_same, fun z h => by cases h⟩
      | tup l =>
        obtain ⟨b, us, rfl, eb, _⟩ := id iP.tup_inv
        refine ⟨_, rfl, _, _, .type "tuple", .type "tuple", true, rfl, .ty _, .base (.tup eb), kTT, _, rfl, iteT ?_⟩
        have c5 := PG.2.2
        exact ⟨_, rfl, _, .tup l, rfl, iP, ap_tm PG.1, by omega, by omega, fun a H' s' ea => ⟨a, rfl, s', ea, fun z hz => iP.nm z (nms_sub hz)⟩⟩
    rintro σ H1 ⟨ba, rfl, s1, eba, bok⟩
    have c60 := CG.body
    refine ⟨_, rfl, bv, c.body, rfl, iB.same s1, c60.1, by omega, fun l H2 xs ns s2 el iN mn ln => ⟨l, rfl, ⟨_, SqL.of el⟩, ?_⟩⟩
    have s12 := s1.trans s2
    refine for_list (K := K) (a := l) (xs := xs) (fun i σ H3 => ∃ y5, σ = [some gv, some (.ref ga), some pv0, some bv, some (.ref ba), y5] ∧ H3 = H2 ∧ ∀ n ∈ ns.take i, FallC fs f c n) ?_ ?_ ?_ ?_
    · exact ⟨none, rfl, rfl, fun n h => by simp at h⟩
    · rintro i σ H3 _ ⟨_, _, rfl, _⟩
      exact SqL.of el
    · rintro i x σ H3 hx ⟨y5, rfl, rfl, hF⟩
      obtain ⟨n, en, iN1⟩ := iN.get hx
      have hn := (mn n).mp (List.mem_of_getElem? en)
      obtain ⟨r, er⟩ := nd_inv hn
      rw [er] at iN1
      obtain ⟨na, us, rfl, ena, iU⟩ := iN1.tup_inv
      cases iU with
      | @cons u0 us _ _ h0 iU =>
      obtain rfl := h0.str_inv
      have ega := s12 _ _ eg
      have next : FallC fs f c n → ∀ m ∈ ns.take (i + 1), FallC fs f c m := fun h m hm => by
        rw [take_snoc en] at hm
        rcases List.mem_append.mp hm with h1 | h1
        · exact hF m h1
        · rw [List.mem_singleton.mp h1]; exact h
      refine ⟨_, rfl, na, _, _, _, rfl, rfl, .inl (.inl ena), atI_nat (j := 0) rfl, _, rfl, ga, _, rfl, .inr (.inl (.inl ega)), rfl, flat_str _, _, rfl, ?_⟩
      rw [inV_str]
      refine ite2 (fun c1 => ?_) (fun c1 => ?_)
      · have hin : InG fs f.w (wd n) := (my _).mp (by simpa using c1)
        obtain ⟨g, efg, hg, ew⟩ := find_at (inG_word hf hin)
        obtain ⟨r', x, p', er', lr, hx', hp'⟩ := fall_at G hf hc hn hg ew
        rw [er] at er'
        obtain rfl : r = r' := (List.cons.inj (PV.tup.inj er')).2
        rw [hp] at hp'
        cases hp'
        have iff := fall_iff G hg ew (ew ▸ hin) er hx' hp
        obtain ⟨a1, a2⟩ := G.at_ g hg
        obtain ⟨u, eu, iu⟩ : ∃ u, us[g.at_.toNat]? = some u ∧ Is H3 u x := by
          have lU := iU.len
          have hlt : g.at_.toNat < us.length := by omega
          obtain ⟨y, ey, iy⟩ := iU.get (List.getElem?_eq_getElem hlt)
          rw [hx'] at ey
          cases ey
          exact ⟨_, List.getElem?_eq_getElem hlt, iy⟩
        refine ⟨_, rfl, _, rfl, _, rfl, na, _, _, _, rfl, rfl, .inl (.inl ena), atI_nat (j := 0) rfl, gv, fs, wd n, rfl, hG.same s12, fun v' hs _ => ?_⟩
        obtain ⟨ra, pa, ca, ps, cs, rfl, era, _⟩ := fn_kinds (hs g efg)
        refine ⟨ra, _, _, _, rfl, rfl, .inl (.inl era), atI_nat (j := 4) rfl, _, _, rfl, rfl, na, _, _, _, rfl, rfl, .inl (.inl ena), ?_, _, rfl, ba, x, below p, rfl, .inr (.inl (.inl (s2 _ _ eba))), iu, bok, _, rfl, ?_⟩
        · have e1 : g.at_ + 1 = ((g.at_.toNat + 1 : Nat) : Int) := by omega
          rw [e1]
          exact atI_nat (j := g.at_.toNat + 1) (by rw [List.getElem?_cons_succ]; exact eu)
        · refine ite2 (fun c2 => ?_) (fun c2 => ?_)
          · refine q false H3 s12 ⟨(fun z => by cases z), fun h => ?_⟩
            have := iff.mp (h n hn)
            rw [this] at c2
            cases c2
          · have : isIn x (below p) = true := by simpa using c2
            exact ⟨_, rfl, rfl, next (iff.mpr this)⟩
      · have hni : ¬ InG fs f.w (wd n) := fun h => c1 (by simpa using (my _).mpr h)
        exact ⟨_, rfl, rfl, next (fall_no hni)⟩
    · rintro σ H3 ⟨y5, rfl, rfl, hF⟩
      have lN := iN.len
      rw [lN, List.take_length] at hF
      exact q true H3 s12 ⟨fun _ n hn => hF n ((mn n).mpr hn), fun _ => rfl⟩
end
end Kx
namespace Kx
open PySem PySem.Spec PyProof.Rows L2
section
variable {P : Program} {w : World} {K : PySem.W.Frag} {mg : Str → Option Value} {base : Heap}
set_option pp.maxSteps 900
def spIF : Sp := fun vs H Q _ => ∃ (gv : V) (fs : List Fn), vs = [gv] ∧ Is H gv (progPV fs) ∧ PgG fs ∧ ∀ r H', Same H H' → (r = true ↔ Falls fs) → Q (.bl r) H'
theorem ok_is_falling (T : Txt K mg) (G_group_of : FnOk P w K mg base CX0 4 T.a_group_of T.d_group_of ["program", "word"] spGroup) (G_are_calls_falling : FnOk P w K mg base CX0 3 T.a_are_calls_falling T.d_are_calls_falling ["program", "group", "pattern", "body"] spCF) : FnOk P w K mg base CX0 5 T.a_is_falling T.d_is_falling ["program"] spIF := by
  refine T.F_is_falling.ok sc_is_falling (fun vs H Q E h => ?_) (fun cdv A outer s H vs Q E hr h => ?_)
  · obtain ⟨gv, fs, rfl, _⟩ := h; rfl
  · obtain ⟨gv, fs, rfl, hG, G, q⟩ := h
    have hr_group_of := hr
    have hr_are_calls_falling := hr.mono (show 3 ≤ 4 by decide)
    refine ⟨_, (pss_cons (ps_for PassesOwn.never rfl (pi_tup (pe_ix ix_tup (pv 0) pe_int (fun _ _ => rfl))) (pg_name (i := 1) sc_is_falling.nd rfl (Or.inl rfl))
    (pss_cons (ps_set (i := 2) sc_is_falling.nd rfl (Or.inl rfl) (pe_call G_group_of hr_group_of rfl T.m_group_of T.F_group_of.kp T.b_group_of .nil pass0 (pa_cons (pv 0) (pa_cons (pe_ix ix_tup (pv 1) pe_int (fun _ _ => rfl)) pa_nil))))
    (pss_one (ps_for PassesOwn.never rfl (pi_tup (pe_ix ix_tup (pv 1) pe_int (fun _ _ => rfl))) (pg_tup rfl (pgs_cons (pg_name (i := 3) sc_is_falling.nd rfl (Or.inl rfl)) (pgs_cons (pg_name (i := 4) sc_is_falling.nd rfl (Or.inl rfl)) pgs_nil)))
    (pss_one (ps_if (pt_not (pt_val (pe_call G_are_calls_falling hr_are_calls_falling rfl T.m_are_calls_falling T.F_are_calls_falling.kp T.b_are_calls_falling .nil pass0 (pa_cons (pv 0) (pa_cons (pv 2) (pa_cons (pe_ix ix_tup (pv 3) (pe_ix ix_tup (pv 1) pe_int (fun _ _ => rfl)) (fun _ _ => rfl)) (pa_cons (pv 4) pa_nil))))))) (pss_one (ps_ret pe_bl)) pss_nil))))))
    (pss_one (ps_ret pe_bl))), ?_⟩
    obtain ⟨a, fa, vs, rfl, ea, efa, iF⟩ := prog_inv hG
    have lF := iF.len
    rw [List.length_map] at lF
    refine ⟨_, rfl, a, _, _, _, rfl, rfl, .inl (.inl ea), atI_nat (j := 1) rfl, fa, rfl, ⟨_, .inl (.inl efa)⟩, ?_⟩
    refine for_tup (K := K) (a := fa) (xs := vs) (fun i σ H2 => ∃ y1 y2 y3 y4, σ = [some (.ref a), y1, y2, y3, y4] ∧ Same H H2 ∧ ∀ f ∈ fs.take i, ∀ c ∈ f.cls, ∀ n ∈ nd c.body, FallC fs f c n) ?_ ?_ ?_ ?_
    · exact ⟨none, none, none, none, rfl, .refl _, fun f h => by simp at h⟩
    · exact fun i σ H2 _ ⟨_, _, _, _, _, sm, _⟩ => .inl (.inl (sm _ _ efa))
    · rintro i x σ H2 hx ⟨y1, y2, y3, y4, rfl, sm, hFall⟩
      obtain ⟨tt, et, it⟩ := iF.get hx
      rw [List.getElem?_map] at et
      obtain ⟨f, ef, rfl⟩ := Option.map_eq_some_iff.mp et
      have hf := List.mem_of_getElem? ef
      obtain ⟨b, pa, ca, ps, cs, rfl, eb, ep, iP, ec, iC, okw⟩ := fn_kinds (it.same sm)
      refine ⟨_, rfl, _, rfl, b, _, _, _, rfl, rfl, .inl (.inl eb), atI_nat (j := 0) rfl, _, fs, f.w, rfl, hG.same sm, G.g, List.mem_map_of_mem hf, fun p H3 ys s3 ep3 nd3 _ m3 => ?_⟩
      have sm3 := sm.trans s3
      refine ⟨_, rfl, b, _, _, _, rfl, rfl, .inl (.inl (s3 _ _ eb)), atI_nat (j := 5) rfl, ca, rfl, ⟨_, .inl (.inl (s3 _ _ ec))⟩, ?_⟩
      refine for_tup (K := K) (a := ca) (xs := cs) (fun j σ H4 => ∃ y3 y4, σ = [some (.ref a), some (.ref b), some (.ref p), y3, y4] ∧ Same H3 H4 ∧ ∀ c ∈ f.cls.take j, ∀ n ∈ nd c.body, FallC fs f c n) ?_ ?_ ?_ ?_
      · exact ⟨_, _, rfl, .refl _, fun c h => by simp at h⟩
      · exact fun j σ H4 _ ⟨_, _, _, s4, _⟩ => .inl (.inl (s4 _ _ (s3 _ _ ec)))
      · rintro j x σ H4 hx2 ⟨y3, y4, rfl, s4, hFc⟩
        have s34 := s3.trans s4
        obtain ⟨tt2, et2, it2⟩ := iC.get hx2
        rw [List.getElem?_map] at et2
        obtain ⟨c, ecc, rfl⟩ := Option.map_eq_some_iff.mp et2
        have hc := List.mem_of_getElem? ecc
        obtain ⟨d, qa, qs, bv, rfl, ed, eqa, iQ, iB⟩ := cl_inv (it2.same s34)
        obtain ⟨a1, a2⟩ := G.at_ f hf
        have lc := ((G.g.fn f hf).cl c hc).len
        have lQ := iQ.len
        have hlt : f.at_.toNat < c.ps.length := by omega
        have hp : c.ps[f.at_.toNat]? = some c.ps[f.at_.toNat] := List.getElem?_eq_getElem hlt
        obtain ⟨u, eu, iu⟩ : ∃ u, qs[f.at_.toNat]? = some u ∧ Is H4 u c.ps[f.at_.toNat] := by
          have h2 : f.at_.toNat < qs.length := by omega
          obtain ⟨y, ey, iy⟩ := iQ.get (List.getElem?_eq_getElem h2)
          rw [hp] at ey
          cases ey
          exact ⟨_, List.getElem?_eq_getElem h2, iy⟩
        have ea4 : atI qs f.at_ = some u := by
          have e1 : f.at_ = ((f.at_.toNat : Nat) : Int) := by omega
          rw [e1]
          exact atI_nat (j := f.at_.toNat) eu
        refine ⟨d, _, rfl, .inl (.inl ed), rfl, _, _, rfl, _, _, rfl, rfl, ?_⟩
        refine ⟨_, rfl, _, rfl, _, rfl, _, rfl, b, _, _, _, rfl, rfl, .inl (.inl (s34 _ _ eb)), atI_nat (j := 4) rfl, qa, _, _, _, rfl, rfl, .inl (.inl eqa), ea4, _, rfl, .ref a, u, bv, p, fs, f, c, _, ys, rfl, hG.same (sm.trans s34), G, hf, hc, s4 _ _ ep3, m3, hp, iu, iB, fun r H5 s5 hr5 => ?_⟩
        cases r with
        | true =>
          refine ⟨_, rfl, iteF ⟨_, _, rfl, s4.trans s5, fun c' hc' => ?_⟩⟩
          rw [take_snoc ecc] at hc'
          rcases List.mem_append.mp hc' with h | h
          · exact hFc c' h
          · rw [List.mem_singleton.mp h]; exact hr5.mp rfl
        | false =>
          refine ⟨_, rfl, iteT (q false H5 ((sm.trans s34).trans s5) ⟨(fun z => by cases z), fun hh => ?_⟩)⟩
          exact absurd (hr5.mpr (hh f hf c hc)) (by simp)
      · rintro σ H4 ⟨y3, y4, rfl, s4, hFc⟩
        have lC := iC.len
        rw [List.length_map] at lC
        rw [lC, List.take_length] at hFc
        refine ⟨_, _, _, _, rfl, sm3.trans s4, fun f' hf' => ?_⟩
        rw [take_snoc ef] at hf'
        rcases List.mem_append.mp hf' with h | h
        · exact hFall f' h
        · rw [List.mem_singleton.mp h]; exact hFc
    · rintro σ H2 ⟨y1, y2, y3, y4, rfl, sm, hFall⟩
      rw [lF, List.take_length] at hFall
      exact q true H2 sm ⟨fun _ => hFall, fun _ => rfl⟩
def spProgram : Sp := fun vs H Q _ => ∃ (tv gv : V) (fs : List Fn), vs = [tv, gv] ∧ TabAt H tv ∧ Is H gv (progPV fs) ∧ PgG fs ∧ ∀ r H', Same H H' → (r = true ↔ Falls fs) → Q (.bl r) H'
theorem tw_fw : ∀ z ∈ TW, ∀ i, i < 12 → z ≠ fw i := by decide +kernel
theorem tw_nd : TW.Nodup := by decide +kernel
theorem ok_is_program (T : Txt K mg) (G_is_row : FnOk P w K mg base CX0 1 T.a_is_row T.d_is_row ["value", "many"] spRow) (G_is_headed : FnOk P w K mg base CX0 5 T.a_is_headed T.d_is_headed ["table", "value"] spHead) (G_words_of : FnOk P w K mg base CX0 1 T.a_words_of T.d_words_of ["table"] spWords) (G_is_clause : FnOk P w K mg base CX0 12 T.a_is_clause T.d_is_clause ["table", "program", "function", "value"] spClause) (G_is_falling : FnOk P w K mg base CX0 5 T.a_is_falling T.d_is_falling ["program"] spIF) : FnOk P w K mg base CX0 13 T.a_is_program T.d_is_program ["table", "value"] spProgram := by
  refine T.F_is_program.ok sc_is_program (fun vs H Q E h => ?_) (fun cdv A outer s H vs Q E hr h => ?_)
  · obtain ⟨tv, gv, fs, rfl, _⟩ := h; rfl
  · obtain ⟨tv, gv, fs, rfl, hT, hG, G, q⟩ := h
    have hr_is_row := hr.mono (show 1 ≤ 12 by decide)
    have hr_is_headed := hr.mono (show 5 ≤ 12 by decide)
    have hr_words_of := hr.mono (show 1 ≤ 12 by decide)
    have hr_is_clause := hr
    have hr_is_falling := hr.mono (show 5 ≤ 12 by decide)
    refine ⟨_, (pss_cons (ps_if (PW.pt (pw_or (pt_not (pt_val (pe_call G_is_row hr_is_row rfl T.m_is_row T.F_is_row.kp T.b_is_row .nil pass0 (pa_cons (pv 1) (pa_cons pe_int pa_nil))))) (pw_or1 (pt_cmpR op_ne (pe_ix ix_tup (pv 1) pe_int (fun _ _ => rfl)) pe_str (nomark _))))) (pss_one (ps_ret pe_bl)) pss_nil)
    (pss_cons (ps_if (PW.pt (pw_or (pt_not (pt_val (pe_callB call_isi (by rfl) T.z_isinstance (by decide +kernel) (pa_cons (pe_ix ix_tup (pv 1) pe_int (fun _ _ => rfl)) (pa_cons (pe_bltn rfl T.z_tuple (by decide +kernel) (show RelV (V.ty "tuple") (Value.type "tuple") from rfl)) pa_nil))))) (pw_or1 (pt_cmpR op_gt (pe_callB call_len_seq (by rfl) T.z_len (by decide +kernel) (pa_cons (pe_ix ix_tup (pv 1) pe_int (fun _ _ => rfl)) pa_nil)) (pe_glob (by rfl) T.g_MOST_FUNCTIONS (show RelV (V.int 12) (.int 12 T.t_MOST_FUNCTIONS) from ⟨_, rfl⟩)) (nomark _))))) (pss_one (ps_ret pe_bl)) pss_nil)
    (pss_cons (ps_for PassesOwn.never rfl (pi_tup (pe_ix ix_tup (pv 1) pe_int (fun _ _ => rfl))) (pg_name (i := 2) sc_is_program.nd rfl (Or.inl rfl))
    (pss_one (ps_if (pt_not (pt_val (pe_call G_is_headed hr_is_headed rfl T.m_is_headed T.F_is_headed.kp T.b_is_headed .nil pass0 (pa_cons (pv 0) (pa_cons (pv 2) pa_nil))))) (pss_one (ps_ret pe_bl)) pss_nil)))
    (pss_cons (ps_set (i := 3) sc_is_program.nd rfl (Or.inl rfl) (pe_op op_cat (pe_call G_words_of hr_words_of rfl T.m_words_of T.F_words_of.kp T.b_words_of .nil pass0 (pa_cons (pv 0) pa_nil)) (pe_lc (own := [("function", 2)]) (g := (gName 2)) (tt := tYes) rfl sc_is_program.nd (pi_tup (pe_ix ix_tup (pv 1) pe_int (fun _ _ => rfl))) (blkOk_by (own := [("function", 2)]) (N := ["table", "value", "function", "words", "clause"]) (sc := defScope s_is_program) (by decide +kernel)) (fun _ _ _ _ _ => (pg_name (i := 2) sc_is_program.nd rfl (Or.inl rfl))) (fun _ _ _ _ _ => pts_nil) (fun _ _ _ _ _ => (pe_ix (ixTK (K := K)) (pv 2) pe_int (fun _ _ => rfl))))))
    (pss_cons (ps_if (pt_cmpR op_ne (pe_callB cr_lenZ (by rfl) T.z_len (by decide +kernel) (pa_cons (pe_callTy (cr_setZ rfl) (by rfl) T.z_set (by decide +kernel) (pa_cons (pv 3) pa_nil)) pa_nil)) (pe_callB call_len_seq (by rfl) T.z_len (by decide +kernel) (pa_cons (pv 3) pa_nil)) (nomark _)) (pss_one (ps_ret pe_bl)) pss_nil)
    (pss_cons (ps_for PassesOwn.never rfl (pi_tup (pe_ix ix_tup (pv 1) pe_int (fun _ _ => rfl))) (pg_name (i := 2) sc_is_program.nd rfl (Or.inl rfl))
    (pss_one (ps_for PassesOwn.never rfl (pi_tup (pe_ix ix_tup (pv 2) pe_int (fun _ _ => rfl))) (pg_name (i := 4) sc_is_program.nd rfl (Or.inl rfl))
    (pss_one (ps_if (pt_not (pt_val (pe_call G_is_clause hr_is_clause rfl T.m_is_clause T.F_is_clause.kp T.b_is_clause .nil pass0 (pa_cons (pv 0) (pa_cons (pv 1) (pa_cons (pv 2) (pa_cons (pv 4) pa_nil))))))) (pss_one (ps_ret pe_bl)) pss_nil)))))
    (pss_one (ps_ret (pe_call G_is_falling hr_is_falling rfl T.m_is_falling T.F_is_falling.kp T.b_is_falling .nil pass0 (pa_cons (pv 1) pa_nil)))))))))), ?_⟩
    obtain ⟨a, fa, vs, rfl, ea, efa, iF⟩ := prog_inv hG
    have lF := iF.len
    rw [List.length_map] at lF
    have l12 := G.g.len
    refine ⟨_, rfl, a, _, 2, rfl, ea, _, rfl, ite2 (fun z => absurd z (by simp)) (fun _ => ?_)⟩
    refine ⟨_, rfl, a, _, _, _, rfl, rfl, .inl (.inl ea), atI_nat (j := 0) rfl, rfl, _, rfl, ite2 (fun z => absurd z (by simp)) (fun _ => ?_)⟩
    refine ⟨_, rfl, a, _, _, _, rfl, rfl, .inl (.inl ea), atI_nat (j := 1) rfl, _, _, .type "tuple", .type "tuple", true, rfl, .ty _, .base (.tup efa), kTT, _, rfl, iteF ?_⟩
    refine ⟨_, rfl, a, _, _, _, rfl, rfl, .inl (.inl ea), atI_nat (j := 1) rfl, fa, vs, rfl, .inr (.inl (.inl efa)), _, _, rfl, rfl, _, rfl, ite2 (fun c1 => absurd (of_decide_eq_true c1) (by omega)) (fun _ => ?_)⟩
    refine ⟨_, rfl, a, _, _, _, rfl, rfl, .inl (.inl ea), atI_nat (j := 1) rfl, fa, rfl, ⟨_, .inl (.inl efa)⟩, ?_⟩
    refine for_tup (K := K) (a := fa) (xs := vs) (fun i σ H2 => ∃ y2, σ = [some tv, some (.ref a), y2, none, none] ∧ Same H H2) ?_ ?_ ?_ ?_
    · exact ⟨none, rfl, .refl _⟩
    · exact fun i σ H2 _ ⟨_, _, sm⟩ => .inl (.inl (sm _ _ efa))
    · rintro i x σ H2 hx ⟨y2, rfl, sm⟩
      obtain ⟨tt, et, it⟩ := iF.get hx
      rw [List.getElem?_map] at et
      obtain ⟨f, ef, rfl⟩ := Option.map_eq_some_iff.mp et
      have hf := List.mem_of_getElem? ef
      obtain ⟨k, hk, ew⟩ := G.wd f hf
      have np := (G.g.fn f hf).np
      exact ⟨_, rfl, _, rfl, tv, x, f, rfl, hT.same sm, it.same sm, by rw [ew]; exact fw_wl k hk, np.1, np.2, (G.at_ f hf).1, (G.at_ f hf).2, (G.g.fn f hf).few, fun H3 s3 => ⟨_, rfl, iteF ⟨_, rfl, sm.trans s3⟩⟩⟩
    rintro σ H2 ⟨y2, rfl, s2⟩
    refine ⟨_, rfl, tv, rfl, hT.same s2, fun l H3 s3 el => ?_⟩
    have s23 := s2.trans s3
    refine ⟨_, rfl, a, _, _, _, rfl, rfl, .inl (.inl (s23 _ _ ea)), atI_nat (j := 1) rfl, fa, rfl, ⟨_, .inl (.inl (s23 _ _ efa))⟩, fun D hD => ?_⟩
    refine lc_tup (K := K) (a := fa) (xs := vs) (fun i H4 => Same H3 H4 ∧ H4 D = some (.lst (((fs.take i).map Fn.w).map V.str))) ?_ ?_ ?_ ?_
    · exact ⟨same_upd hD _, upd_same⟩
    · exact fun i H4 _ ⟨sm, _⟩ => .inl (.inl (sm _ _ (s23 _ _ efa)))
    · rintro i x H4 hx ⟨sm, eD⟩
      obtain ⟨u, et, it⟩ := iF.get hx
      rw [List.getElem?_map] at et
      obtain ⟨f, ef', rfl⟩ := Option.map_eq_some_iff.mp et
      obtain ⟨b, pa, ca, ps, cs, rfl, eb, _⟩ := fn_kinds (it.same (s23.trans sm))
      have hi := (List.getElem?_eq_some_iff.mp ef').1
      refine ⟨rfl, yes_if ⟨_, rfl, b, _, _, _, rfl, rfl, .inl (.inl eb), atI_nat (j := 0) rfl, _, eD, small1000 (by rw [List.length_map, List.length_map, List.length_take]; omega), Kx.Same.own sm hD _, ?_⟩⟩
      rw [upd_same, take_snoc ef', List.map_append, List.map_append]; rfl
    rintro H4 ⟨s4, eD⟩
    rw [lF, List.take_length] at eD
    have el4 := s4 _ _ el
    refine ⟨l, D, _, _, rfl, rfl, el4, eD, Nat.le_of_lt (small1000 (by rw [List.length_map, List.length_map, List.length_map]; have : TW.length = 6 := rfl; omega)), fun l2 hl2 => ?_⟩
    have s5 := same_upd hl2 (.lst (TW.map V.str ++ (fs.map Fn.w).map V.str))
    have e5 : (upd H4 l2 (.lst (TW.map V.str ++ (fs.map Fn.w).map V.str))) l2 = some (.lst ((TW ++ fs.map Fn.w).map V.str)) := by rw [upd_same, List.map_append]
    have s25 := (s23.trans s4).trans s5
    generalize upd H4 l2 (.lst (TW.map V.str ++ (fs.map Fn.w).map V.str)) = H5 at *
    have nd5 : (TW ++ fs.map Fn.w).Nodup := List.nodup_append.mpr ⟨tw_nd, G.g.nd, fun x hx y hy e => by
      obtain ⟨f, hf, ew⟩ := List.mem_map.mp hy
      obtain ⟨k, hk, ew2⟩ := G.wd f hf
      exact tw_fw x hx k hk (by rw [e, ← ew, ew2])⟩
    refine ⟨_, rfl, l2, TW ++ fs.map Fn.w, rfl, SqL.of e5, by rw [List.length_append, List.length_map]; have : TW.length = 6 := rfl; omega, fun zp zs hzp ndz mz lz => ?_⟩
    have s6 := same_upd hzp (ZO P w zp zs)
    have lzz : zs.length = (TW ++ fs.map Fn.w).length := Nat.le_antisymm (nodup_len ndz fun z hz => (mz z).mp hz) (nodup_len nd5 fun z hz => (mz z).mpr hz)
    refine ⟨zp, zs, rfl, upd_same, by rw [lzz, List.length_append, List.length_map]; have : TW.length = 6 := rfl; omega, ?_⟩
    refine ⟨_, rfl, l2, _, rfl, .inl (SqL.of (s6 _ _ e5)), rfl, _, rfl, ite2 (fun c1 => absurd c1 (by rw [List.length_map, ← lzz]; simp)) (fun _ => ?_)⟩
    have s26 := s25.trans s6
    refine ⟨_, rfl, a, _, _, _, rfl, rfl, .inl (.inl (s26 _ _ ea)), atI_nat (j := 1) rfl, fa, rfl, ⟨_, .inl (.inl (s26 _ _ efa))⟩, ?_⟩
    refine for_tup (K := K) (a := fa) (xs := vs) (fun i σ H7 => ∃ y2 y4, σ = [some tv, some (.ref a), y2, some (.ref l2), y4] ∧ Same (upd H5 zp (ZO P w zp zs)) H7) ?_ ?_ ?_ ?_
    · exact ⟨_, _, rfl, .refl _⟩
    · exact fun i σ H7 _ ⟨_, _, _, sm⟩ => .inl (.inl (sm _ _ (s26 _ _ efa)))
    · rintro i x σ H7 hx ⟨y2, y4, rfl, sm⟩
      obtain ⟨tt, et, it⟩ := iF.get hx
      rw [List.getElem?_map] at et
      obtain ⟨f, ef, rfl⟩ := Option.map_eq_some_iff.mp et
      have hf := List.mem_of_getElem? ef
      have s27 := s26.trans sm
      obtain ⟨b, pa, ca, ps, cs, rfl, eb, ep, iP, ec, iC, okw⟩ := fn_kinds (it.same s27)
      refine ⟨_, rfl, b, _, _, _, rfl, rfl, .inl (.inl eb), atI_nat (j := 5) rfl, ca, rfl, ⟨_, .inl (.inl ec)⟩, ?_⟩
      refine for_tup (K := K) (a := ca) (xs := cs) (fun j σ H8 => ∃ y4, σ = [some tv, some (.ref a), some (.ref b), some (.ref l2), y4] ∧ Same H7 H8) ?_ ?_ ?_ ?_
      · exact ⟨_, rfl, .refl _⟩
      · exact fun j σ H8 _ ⟨_, _, s8⟩ => .inl (.inl (s8 _ _ ec))
      · rintro j x σ H8 hx2 ⟨y4, rfl, s8⟩
        obtain ⟨tt2, et2, it2⟩ := iC.get hx2
        rw [List.getElem?_map] at et2
        obtain ⟨c, ecc, rfl⟩ := Option.map_eq_some_iff.mp et2
        have hc := List.mem_of_getElem? ecc
        have s28 := s27.trans s8
        exact ⟨_, rfl, _, rfl, _, rfl, _, rfl, tv, .ref a, .ref b, x, fs, f, c, rfl, hT.same s28, hG.same s28, G, hf, hc, it.same s28, it2.same s8, fun H9 s9 => ⟨_, rfl, iteF ⟨_, rfl, s8.trans s9⟩⟩⟩
      · rintro σ H8 ⟨y4, rfl, s8⟩
        exact ⟨_, _, rfl, sm.trans s8⟩
    · rintro σ H7 ⟨y2, y4, rfl, sm⟩
      have s27 := s26.trans sm
      exact ⟨_, rfl, .ref a, fs, rfl, hG.same s27, G, fun r H8 s8 hr8 => q r H8 (s27.trans s8) hr8⟩
end
end Kx
namespace Kx
open PySem PySem.Spec PyProof.Rows L2
section
variable {P : Program} {w : World} {K : PySem.W.Frag} {mg : Str → Option Value} {base : Heap}
set_option pp.maxSteps 900
def spLTab : Sp := fun vs H Q _ => vs = [] ∧ ∀ tv H', Same H H' → TabAt H' tv → Q tv H'
theorem ok_law_graph_table (T : Txt K mg)  : FnOk P w K mg base CX0 1 T.a_law_graph_table T.d_law_graph_table [] spLTab := by
  refine T.F_law_graph_table.ok sc_law_graph_table (fun vs H Q E h => ?_) (fun cdv A outer s H vs Q E hr h => ?_)
  · obtain ⟨rfl, _⟩ := h; rfl
  · obtain ⟨rfl, q⟩ := h
    refine ⟨_, (pss_cons (ps_set (i := 0) sc_law_graph_table.nd rfl (Or.inl rfl) (pe_tup (pa_cons pe_str (pa_cons pe_str pa_nil))))
    (pss_cons (ps_set (i := 1) sc_law_graph_table.nd rfl (Or.inl rfl) (pe_tup (pa_cons (pe_tup (pa_cons pe_str (pa_cons (pe_tup pa_nil) (pa_cons pe_str (pa_cons (pe_tup (pa_cons pe_str pa_nil)) pa_nil))))) (pa_cons (pe_tup (pa_cons pe_str (pa_cons (pe_tup (pa_cons (pe_tup (pa_cons pe_str (pa_cons pe_str pa_nil))) pa_nil)) (pa_cons pe_str (pa_cons (pv 0) pa_nil))))) (pa_cons (pe_tup (pa_cons pe_str (pa_cons (pe_tup (pa_cons (pe_tup (pa_cons pe_str (pa_cons pe_str pa_nil))) (pa_cons (pe_tup (pa_cons pe_str (pa_cons pe_str pa_nil))) pa_nil))) (pa_cons pe_str (pa_cons (pv 0) pa_nil))))) pa_nil)))))
    (pss_one (ps_ret (pe_tup (pa_cons pe_str (pa_cons (KBm.pe_tupF (pa_cons (pe_tup (pa_cons pe_str (pa_cons pe_int pa_nil))) (pa_cons (pe_tup (pa_cons pe_str (pa_cons pe_int pa_nil))) pa_nil))) (pa_cons (pe_tup (pa_cons pe_str pa_nil)) (pa_cons (pv 1) pa_nil))))))))), ?_⟩
    refine go_asg (t := .tup [.str "s", .str "n"]) ?_ fun v1 H1 s1 i1 => ?_
    · (repeat (first | exact mk_nil | refine mk_cons ?_ ?_ | refine mk_tup ?_ (by simp) | exact mk_str (by decide +kernel) | (refine mk_var rfl ?_; assumption)))
    refine go_asg (t := .tup (KA.map rowPV)) ?_ fun v2 H2 s2 i2 => ?_
    · show MkE _ _ _ (.tup [.tup [.str "K0", .tup [], .str "Fa", .tup [.str "z"]], .tup [.str "K1", .tup [.tup [.str "Fa", .str "n"]], .str "Fa", .tup [.str "s", .str "n"]], .tup [.str "K2", .tup [.tup [.str "Fa", .str "n"], .tup [.str "Fa", .str "n"]], .str "Fa", .tup [.str "s", .str "n"]]])
      (repeat (first | exact mk_nil | refine mk_cons ?_ ?_ | refine mk_tup ?_ (by simp) | exact mk_str (by decide +kernel) | (refine mk_var rfl ?_; assumption)))
    refine ⟨(by show 2 ≤ sizeLine; decide), fun p0 hp0 => ⟨(by show 2 ≤ sizeLine; decide), fun p1 hp1 => ?_⟩⟩
    have s3 := same_upd hp0 (.tup [.str "z", .int 0])
    have s4 := same_upd hp1 (.tup [.str "s", .int 1])
    refine ⟨(by show 2 ≤ sizeLine; decide), fun m o hm od => ?_⟩
    have s5 := same_upd hm (.frz o (.tup [.ref p0, .ref p1]))
    refine ⟨(by show 1 ≤ sizeLine; decide), fun f hf => ?_⟩
    have s6 := same_upd hf (.tup [.str "Fa"])
    refine ⟨_, rfl, (by show 4 ≤ sizeLine; decide), fun t ht => ?_⟩
    obtain ⟨c, cvs, rfl, ec, iC⟩ := id i2.tup_inv
    have s7 := same_upd ht (.tup [.str "table", .ref m, .ref f, .ref c])
    refine q _ _ ((((((s1.trans s2).trans s3).trans s4).trans s5).trans s6).trans s7) ⟨⟨t, m, p0, p1, f, c, o, rfl, upd_same, ?_, od, ?_, ?_, ?_, ?_⟩⟩
    · exact s7 _ _ (s6 _ _ upd_same)
    · exact s7 _ _ (s6 _ _ (s5 _ _ (s4 _ _ upd_same)))
    · exact s7 _ _ (s6 _ _ (s5 _ _ upd_same))
    · exact s7 _ _ upd_same
    · exact i2.same ((((s3.trans s4).trans s5).trans s6).trans s7)
def spLB : Sp := fun vs H Q _ => ∃ v p, vs = [v] ∧ Is H v p ∧ PatG p ∧ ∀ a H', Same H H' → H' a = some (.lst ((below p).map V.str)) → (∀ z ∈ below p, sok z = true) → Q (.ref a) H'
theorem ok_law_below (T : Txt K mg) (G_law_names : FnOk P w K mg base CX0 13 T.a_law_names T.d_law_names ["term"] (spNames 12)) : FnOk P w K mg base CX0 14 T.a_law_below T.d_law_below ["pattern"] spLB := by
  refine T.F_law_below.ok sc_law_below (fun vs H Q E h => ?_) (fun cdv A outer s H vs Q E hr h => ?_)
  · obtain ⟨v, p, rfl, _⟩ := h; rfl
  · obtain ⟨v, p, rfl, hI, PG, q⟩ := h
    have hr_law_names := hr
    refine ⟨_, (pss_cons (ps_if (pt_val (pe_callB call_isi (by rfl) T.z_isinstance (by decide +kernel) (pa_cons (pv 0) (pa_cons (pe_bltn rfl T.z_str (by decide +kernel) (show RelV (V.ty "str") (Value.type "str") from rfl)) pa_nil)))) (pss_one (ps_ret (pe_lst pa_nil))) pss_nil)
    (pss_one (ps_ret (pe_call G_law_names hr_law_names rfl T.m_law_names T.F_law_names.kp T.b_law_names .nil pass0 (pa_cons (pv 0) pa_nil))))), ?_⟩
    cases p with
    | int i => exact absurd PG.1 (by simp [Ap])
    | str z =>
      obtain rfl := hI.str_inv
      refine ⟨_, rfl, _, _, .type "str", .type "str", true, rfl, .ty _, .base (.str z), kSS, _, rfl, iteT ⟨(by show 0 ≤ sizeLine; decide), fun a ha => ?_⟩⟩
      exact q a _ (same_upd ha _) upd_same fun z h => by cases h
    | tup l =>
      obtain ⟨b, us, rfl, eb, _⟩ := id hI.tup_inv
      refine ⟨_, rfl, _, _, .type "tuple", .type "str", false, rfl, .ty _, .base (.tup eb), kTS, _, rfl, iteF ?_⟩
      have c5 := PG.2.2
      exact ⟨_, rfl, _, .tup l, rfl, hI, ap_tm PG.1, by omega, by omega, fun a H' s' ea => q a H' s' ea fun z hz => hI.nm z (nms_sub hz)⟩
def plK (fs : List Fn) : List (Key × V) := fs.map fun f => (Sum.inr f.w, .int f.at_)
theorem pl_val {z : Str} : ∀ fs : List Fn, valV (plK fs) (Sum.inr z) = (fs.find? fun f => f.w == z).map fun f => .int f.at_
  | [] => rfl
  | f :: r => by
    show valV ((Sum.inr f.w, V.int f.at_) :: plK r) (Sum.inr z) = _
    by_cases e : f.w = z
    · rw [valV_pos (by rw [e]), List.find?_cons_of_pos (by simpa using e)]; rfl
    · rw [valV_neg (fun q => e (Sum.inr.inj q)), pl_val r, List.find?_cons_of_neg (by simpa using e)]
theorem ok_law_falls (T : Txt K mg) (G_law_group : FnOk P w K mg base CX0 4 T.a_law_group T.d_law_group ["program", "word"] spLGroup) (G_law_calls : FnOk P w K mg base CX0 1 T.a_law_calls T.d_law_calls ["program", "body"] spLCallsN) (G_law_below : FnOk P w K mg base CX0 14 T.a_law_below T.d_law_below ["pattern"] spLB) : FnOk P w K mg base CX0 15 T.a_law_falls T.d_law_falls ["program"] spIF := by
  refine T.F_law_falls.ok sc_law_falls (fun vs H Q E h => ?_) (fun cdv A outer s H vs Q E hr h => ?_)
  · obtain ⟨gv, fs, rfl, _⟩ := h; rfl
  · obtain ⟨gv, fs, rfl, hG, G, q⟩ := h
    have hr_law_group := hr.mono (show 4 ≤ 14 by decide)
    have hr_law_calls := hr.mono (show 1 ≤ 14 by decide)
    have hr_law_below := hr
    have hu := hu_of hr
    refine ⟨_, (pss_cons (ps_set (i := 1) sc_law_falls.nd rfl (Or.inl rfl) pe_dnewK)
    (pss_cons (ps_for PassesOwn.never rfl (pi_tup (pe_ix ix_tup (pv 0) pe_int (fun _ _ => rfl))) (pg_name (i := 2) sc_law_falls.nd rfl (Or.inl rfl))
    (pss_one (ps_dput hu (pv 1) (pe_ix ix_tup (pv 2) pe_int (fun _ _ => rfl)) (pe_ix ix_tup (pv 2) pe_int (fun _ _ => rfl)) rfl)))
    (pss_cons (ps_for PassesOwn.never rfl (pi_tup (pe_ix ix_tup (pv 0) pe_int (fun _ _ => rfl))) (pg_name (i := 2) sc_law_falls.nd rfl (Or.inl rfl))
    (pss_cons (ps_set (i := 3) sc_law_falls.nd rfl (Or.inl rfl) (pe_call G_law_group hr_law_group rfl T.m_law_group T.F_law_group.kp T.b_law_group .nil pass0 (pa_cons (pv 0) (pa_cons (pe_ix ix_tup (pv 2) pe_int (fun _ _ => rfl)) pa_nil))))
    (pss_one (ps_for PassesOwn.never rfl (pi_tup (pe_ix ix_tup (pv 2) pe_int (fun _ _ => rfl))) (pg_tup rfl (pgs_cons (pg_name (i := 4) sc_law_falls.nd rfl (Or.inl rfl)) (pgs_cons (pg_name (i := 5) sc_law_falls.nd rfl (Or.inl rfl)) pgs_nil)))
    (pss_one (ps_for PassesOwn.never rfl (pi_list (pe_call G_law_calls hr_law_calls rfl T.m_law_calls T.F_law_calls.kp T.b_law_calls .nil pass0 (pa_cons (pv 0) (pa_cons (pv 5) pa_nil)))) (pg_name (i := 6) sc_law_falls.nd rfl (Or.inl rfl))
    (pss_one (ps_if (PW.pt (pw_and (pt_cmpR op_in_seq (pe_ix ix_tup (pv 6) pe_int (fun _ _ => rfl)) (pv 3) (by rfl)) (pw_and1 (pt_cmpR (notInD (u200 hr)) (pe_ix ix_tup (pv 6) (pe_op op_add pe_int (pe_dget hu (pv 1) (pe_ix ix_tup (pv 6) pe_int (fun _ _ => rfl)) (fun _ _ => rfl))) (fun _ _ => rfl)) (pe_call G_law_below hr_law_below rfl T.m_law_below T.F_law_below.kp T.b_law_below .nil pass0 (pa_cons (pe_ix ix_tup (pv 4) (pe_ix ix_tup (pv 2) pe_int (fun _ _ => rfl)) (fun _ _ => rfl)) pa_nil)) (by rfl))))) (pss_one (ps_ret pe_bl)) pss_nil))))))))
    (pss_one (ps_ret pe_bl))))), ?_⟩
    obtain ⟨a, fa, vs, rfl, ea, efa, iF⟩ := prog_inv hG
    have lF := iF.len
    rw [List.length_map] at lF
    have l12 := G.g.len
    refine fun pl hpl => ?_
    have s1 := same_upd hpl (.dK [])
    refine ⟨_, rfl, a, _, _, _, rfl, rfl, .inl (.inl (s1 _ _ ea)), atI_nat (j := 1) rfl, fa, rfl, ⟨_, .inl (.inl (s1 _ _ efa))⟩, ?_⟩
    refine for_tup (K := K) (a := fa) (xs := vs) (fun i σ H2 => ∃ y2, σ = [some (.ref a), some (.ref pl), y2, none, none, none, none] ∧ Same H H2 ∧ H2 pl = some (.dK (plK (fs.take i)))) ?_ ?_ ?_ ?_
    · exact ⟨none, rfl, s1, upd_same⟩
    · exact fun i σ H2 _ ⟨_, _, sm, _⟩ => .inl (.inl (sm _ _ efa))
    · rintro i x σ H2 hx ⟨y2, rfl, sm, epl⟩
      obtain ⟨tt, et, it⟩ := iF.get hx
      rw [List.getElem?_map] at et
      obtain ⟨f, ef, rfl⟩ := Option.map_eq_some_iff.mp et
      obtain ⟨b, pa, ca, ps, cs, rfl, eb, ep, iP, ec, iC, okw⟩ := fn_kinds (it.same sm)
      have hi := (List.getElem?_eq_some_iff.mp ef).1
      have nw0 : valV (plK (fs.take i)) (Sum.inr f.w) = none := by
        rw [pl_val]
        have : (fs.take i).find? (fun g => g.w == f.w) = none := by
          rw [List.find?_eq_none]
          intro g hg e
          have e2 : g.w = f.w := by simpa using e
          have nd := G.g.nd
          rw [← List.take_append_drop (i + 1) fs, take_snoc ef, List.map_append, List.map_append] at nd
          have := (List.nodup_append.mp (List.nodup_append.mp nd).1).2.2 g.w (List.mem_map_of_mem hg) f.w (by simp)
          exact this e2
        rw [this]; rfl
      refine ⟨_, rfl, b, _, _, _, rfl, rfl, .inl (.inl eb), atI_nat (j := 4) rfl, _, rfl, _, rfl, b, _, _, _, rfl, rfl, .inl (.inl eb), atI_nat (j := 0) rfl, pl, _, rfl, DPut.k (k := Sum.inr f.w) epl (small1000 (by rw [plK, List.length_map, List.length_take]; omega)), _, rfl, Kx.Same.own sm hpl _, ?_⟩
      rw [upd_same, putK_new _ nw0, take_snoc ef, plK, plK, List.map_append]; rfl
    rintro σ H2 ⟨y2, rfl, s2, epl⟩
    rw [lF, List.take_length] at epl
    refine ⟨_, rfl, a, _, _, _, rfl, rfl, .inl (.inl (s2 _ _ ea)), atI_nat (j := 1) rfl, fa, rfl, ⟨_, .inl (.inl (s2 _ _ efa))⟩, ?_⟩
    refine for_tup (K := K) (a := fa) (xs := vs) (fun i σ H3 => ∃ y2 y3 y4 y5 y6, σ = [some (.ref a), some (.ref pl), y2, y3, y4, y5, y6] ∧ Same H2 H3 ∧ ∀ f ∈ fs.take i, ∀ c ∈ f.cls, ∀ n ∈ nd c.body, FallC fs f c n) ?_ ?_ ?_ ?_
    · exact ⟨_, _, _, _, _, rfl, .refl _, fun f h => by simp at h⟩
    · exact fun i σ H3 _ ⟨_, _, _, _, _, _, sm, _⟩ => .inl (.inl (sm _ _ (s2 _ _ efa)))
    · rintro i x σ H3 hx ⟨y2, y3, y4, y5, y6, rfl, sm, hFall⟩
      obtain ⟨tt, et, it⟩ := iF.get hx
      rw [List.getElem?_map] at et
      obtain ⟨f, ef, rfl⟩ := Option.map_eq_some_iff.mp et
      have hf := List.mem_of_getElem? ef
      have s03 := s2.trans sm
      obtain ⟨b, pa, ca, ps, cs, rfl, eb, ep, iP, ec, iC, okw⟩ := fn_kinds (it.same s03)
      refine ⟨_, rfl, _, rfl, b, _, _, _, rfl, rfl, .inl (.inl eb), atI_nat (j := 0) rfl, _, fs, f.w, rfl, hG.same s03, G.g, List.mem_map_of_mem hf, fun p H4 ys s4 ep4 nd4 _ m4 => ?_⟩
      have s34 := sm.trans s4
      refine ⟨_, rfl, b, _, _, _, rfl, rfl, .inl (.inl (s4 _ _ eb)), atI_nat (j := 5) rfl, ca, rfl, ⟨_, .inl (.inl (s4 _ _ ec))⟩, ?_⟩
      refine for_tup (K := K) (a := ca) (xs := cs) (fun j σ H5 => ∃ y4 y5 y6, σ = [some (.ref a), some (.ref pl), some (.ref b), some (.ref p), y4, y5, y6] ∧ Same H4 H5 ∧ ∀ c ∈ f.cls.take j, ∀ n ∈ nd c.body, FallC fs f c n) ?_ ?_ ?_ ?_
      · exact ⟨_, _, _, rfl, .refl _, fun c h => by simp at h⟩
      · exact fun j σ H5 _ ⟨_, _, _, _, s5, _⟩ => .inl (.inl (s5 _ _ (s4 _ _ ec)))
      · rintro j x σ H5 hx2 ⟨y4, y5, y6, rfl, s5, hFc⟩
        have s45 := s4.trans s5
        obtain ⟨tt2, et2, it2⟩ := iC.get hx2
        rw [List.getElem?_map] at et2
        obtain ⟨c, ecc, rfl⟩ := Option.map_eq_some_iff.mp et2
        have hc := List.mem_of_getElem? ecc
        obtain ⟨d, qa, qs, bv, rfl, ed, eqa, iQ, iB⟩ := cl_inv (it2.same s45)
        obtain ⟨a1, a2⟩ := G.at_ f hf
        have CG := (G.g.fn f hf).cl c hc
        have lc := CG.len
        have lQ := iQ.len
        have hlt : f.at_.toNat < c.ps.length := by omega
        have hp : c.ps[f.at_.toNat]? = some c.ps[f.at_.toNat] := List.getElem?_eq_getElem hlt
        obtain ⟨u, eu, iu⟩ : ∃ u, qs[f.at_.toNat]? = some u ∧ Is H5 u c.ps[f.at_.toNat] := by
          have h2 : f.at_.toNat < qs.length := by omega
          obtain ⟨y, ey, iy⟩ := iQ.get (List.getElem?_eq_getElem h2)
          rw [hp] at ey
          cases ey
          exact ⟨_, List.getElem?_eq_getElem h2, iy⟩
        have ea4 : atI qs f.at_ = some u := by
          have e1 : f.at_ = ((f.at_.toNat : Nat) : Int) := by omega
          rw [e1]
          exact atI_nat (j := f.at_.toNat) eu
        have PG := CG.pat _ (List.mem_of_getElem? hp)
        generalize c.ps[f.at_.toNat] = pp at hp iu PG
        have s05 := (s03.trans s45)
        have c60 := CG.body
        refine ⟨d, _, rfl, .inl (.inl ed), rfl, _, _, rfl, _, _, rfl, rfl, ?_⟩
        refine ⟨_, rfl, _, rfl, .ref a, fs, bv, c.body, rfl, hG.same s05, G.g, iB, c60.1, by omega, fun l H6 xs ns s6 nl el iN mn ln => ⟨l, rfl, ⟨_, SqL.of el⟩, ?_⟩⟩
        refine for_list (K := K) (a := l) (xs := xs) (fun k σ H7 => ∃ y6, σ = [some (.ref a), some (.ref pl), some (.ref b), some (.ref p), some (.ref qa), some bv, y6] ∧ Same H6 H7 ∧ ∀ n ∈ ns.take k, FallC fs f c n) ?_ ?_ ?_ ?_
        · exact ⟨_, rfl, .refl _, fun n h => by simp at h⟩
        · exact fun k σ H7 _ ⟨_, _, s7, _⟩ => SqL.of (s7 _ _ el)
        · rintro k x σ H7 hx3 ⟨y6, rfl, s7, hFn⟩
          have s67 := s6.trans s7
          obtain ⟨n, en, iN1⟩ := iN.get hx3
          obtain ⟨hn, hw⟩ := (mn n).mp (List.mem_of_getElem? en)
          obtain ⟨g, efg, hg, ew⟩ := find_at hw
          obtain ⟨r, xx, p', er, lr, hx', hp'⟩ := fall_at G hf hc hn hg ew
          rw [hp] at hp'
          cases hp'
          replace iN1 := iN1.same s7
          rw [er] at iN1
          obtain ⟨na, us, rfl, ena, iU⟩ := iN1.tup_inv
          cases iU with
          | @cons u0 us _ _ h0 iU =>
          obtain rfl := h0.str_inv
          have next : FallC fs f c n → ∀ m ∈ ns.take (k + 1), FallC fs f c m := fun h m hm => by
            rw [take_snoc en] at hm
            rcases List.mem_append.mp hm with h1 | h1
            · exact hFn m h1
            · rw [List.mem_singleton.mp h1]; exact h
          have ep7 := s67 _ _ (s5 _ _ ep4)
          have epl7 := s67 _ _ (s5 _ _ (s34 _ _ epl))
          refine ⟨_, rfl, na, _, _, _, rfl, rfl, .inl (.inl ena), atI_nat (j := 0) rfl, _, rfl, p, _, rfl, .inl (SqL.of ep7), rfl, flat_str _, _, rfl, ?_⟩
          rw [inV_str]
          refine ite2 (fun c1 => ?_) (fun c1 => ?_)
          · have hin : InG fs f.w (wd n) := (m4 _).mp (by simpa using c1)
            have iff := fall_iff G hg ew (ew ▸ hin) er hx' hp
            obtain ⟨b1, b2⟩ := G.at_ g hg
            obtain ⟨uu, euu, iuu⟩ : ∃ u, us[g.at_.toNat]? = some u ∧ Is H7 u xx := by
              have lU := iU.len
              have hlt : g.at_.toNat < us.length := by omega
              obtain ⟨y, ey, iy⟩ := iU.get (List.getElem?_eq_getElem hlt)
              rw [hx'] at ey
              cases ey
              exact ⟨_, List.getElem?_eq_getElem hlt, iy⟩
            have vg : valV (plK fs) (Sum.inr (wd n)) = some (.int g.at_) := by rw [pl_val, efg]; rfl
            have eat : atI (V.str (wd n) :: us) (1 + g.at_) = some uu := by
              have e1 : 1 + g.at_ = ((g.at_.toNat + 1 : Nat) : Int) := by omega
              rw [e1]
              exact atI_nat (j := g.at_.toNat + 1) (by rw [List.getElem?_cons_succ]; exact euu)
            refine ⟨_, rfl, _, rfl, _, rfl, na, _, _, _, rfl, rfl, .inl (.inl ena), atI_nat (j := 0) rfl, pl, _, rfl, (show DGet H7 pl (V.str (wd n)) (some (V.int g.at_)) from vg ▸ DGet.k (k := Sum.inr (wd n)) epl7), _, _, rfl, rfl, na, _, _, uu, rfl, rfl, .inl (.inl ena), eat, ?_⟩
            refine ⟨_, rfl, _, rfl, b, _, _, _, rfl, rfl, .inl (.inl (s67 _ _ (s45 _ _ eb))), atI_nat (j := 4) rfl, qa, _, _, u, rfl, rfl, .inl (.inl (s67 _ _ eqa)), ea4, u, pp, rfl, iu.same s67, PG, fun ba H8 s8 eba bok => ⟨ba, xx, below pp, rfl, .inl (SqL.of eba), iuu.same s8, bok, _, rfl, ?_⟩⟩
            refine ite2 (fun c2 => ?_) (fun c2 => ?_)
            · refine q false H8 ((s05.trans s67).trans s8) ⟨(fun z => by cases z), fun h => ?_⟩
              have := iff.mp (h f hf c hc n hn)
              rw [this] at c2
              cases c2
            · have : isIn xx (below pp) = true := by simpa using c2
              exact ⟨_, rfl, s7.trans s8, next (iff.mpr this)⟩
          · have hni : ¬ InG fs f.w (wd n) := fun h => c1 (by simpa using (m4 _).mpr h)
            exact ⟨_, rfl, s7, next (fall_no hni)⟩
        · rintro σ H7 ⟨y6, rfl, s7, hFn⟩
          have lN := iN.len
          rw [lN, List.take_length] at hFn
          refine ⟨_, _, _, rfl, (s5.trans s6).trans s7, fun c' hc' => ?_⟩
          rw [take_snoc ecc] at hc'
          rcases List.mem_append.mp hc' with h | h
          · exact hFc c' h
          · rw [List.mem_singleton.mp h]
            intro n hn g hg ew
            exact hFn n ((mn n).mpr ⟨hn, by rw [← ew]; exact List.mem_map_of_mem hg⟩) g hg ew
      · rintro σ H5 ⟨y4, y5, y6, rfl, s5, hFc⟩
        have lC := iC.len
        rw [List.length_map] at lC
        rw [lC, List.take_length] at hFc
        refine ⟨_, _, _, _, _, rfl, s34.trans s5, fun f' hf' => ?_⟩
        rw [take_snoc ef] at hf'
        rcases List.mem_append.mp hf' with h | h
        · exact hFall f' h
        · rw [List.mem_singleton.mp h]; exact hFc
    · rintro σ H3 ⟨y2, y3, y4, y5, y6, rfl, sm, hFall⟩
      rw [lF, List.take_length] at hFall
      exact q true H3 (s2.trans sm) ⟨fun _ => hFall, fun _ => rfl⟩
end
end Kx
namespace Kx
open PySem PySem.Spec PyProof.Rows L2
section
variable {P : Program} {w : World} {K : PySem.W.Frag} {mg : Str → Option Value} {base : Heap}
set_option pp.maxSteps 900
/-! ### rings -/
def pK0 : PV := .tup [.str "K0"]
def pKx : PV := .tup [.str "K1", .str "x"]
def rpat (O k : Nat) : PV := if k = O then .str "x" else pKx
def rbody (M k : Nat) : PV := .tup [.str (fw ((k + 1) % M)), .str "x"]
def rfn (M O k : Nat) : Fn := ⟨fw k, 1, 0, [⟨[pK0], pK0⟩, ⟨[rpat O k], rbody M k⟩]⟩
def ringL (M O : Nat) : List Fn := (List.range M).map (rfn M O)
def ringT (M O t : Nat) : List Fn := (ringL M O).drop t ++ (ringL M O).take t
theorem ringT_mem {M O t : Nat} {f : Fn} : f ∈ ringT M O t ↔ ∃ k, k < M ∧ f = rfn M O k := by
  have h : f ∈ ringT M O t ↔ f ∈ ringL M O := by
    unfold ringT
    rw [List.mem_append, Or.comm, ← List.mem_append, List.take_append_drop]
  rw [h, ringL, List.mem_map]
  exact ⟨fun ⟨k, hk, e⟩ => ⟨k, List.mem_range.mp hk, e.symm⟩, fun ⟨k, hk, e⟩ => ⟨k, List.mem_range.mpr hk, e.symm⟩⟩
theorem rpat_lv (O k : Nat) : lv (rpat O k) = [("x" : Str)] := by
  unfold rpat; split <;> simp [lv, pKx, lvL]
theorem rpat_good (O k : Nat) : PatG (rpat O k) := by
  have k1 : (("K1" : Str), 1) ∈ KA := by decide +kernel
  unfold rpat
  split
  · exact ⟨trivial, by simp [dep], by simp [cnt]⟩
  · exact ⟨⟨k1, trivial, trivial⟩, by simp [pKx, dep, depL], by simp [pKx, cnt, cntL]⟩
theorem ring_pg {M O t : Nat} (m2 : 2 ≤ M) (m12 : M ≤ 12) : PgG (ringT M O t) := by
  have k0 : (("K0" : Str), 0) ∈ KA := by decide +kernel
  have nd0 : ((ringL M O).map Fn.w).Nodup := by
    have e : (ringL M O).map Fn.w = (List.range M).map fw := by rw [ringL, List.map_map]; rfl
    rw [e]
    refine List.pairwise_map.mpr ((List.nodup_range (n := M)).imp_of_mem fun {a b} ha hb n q => n ?_)
    have a4 := List.mem_range.mp ha
    have b4 := List.mem_range.mp hb
    exact fw_inj a (by omega) b (by omega) q
  have len : (ringT M O t).length = M := by
    rw [ringT, List.length_append, Nat.add_comm, ← List.length_append, List.take_append_drop, ringL, List.length_map, List.length_range]
  have inAR : ∀ k, k < M → (fw k, 1) ∈ AR (ringT M O t) := fun k hk => List.mem_append_right _ (List.mem_map.mpr ⟨rfn M O k, ringT_mem.mpr ⟨k, hk, rfl⟩, rfl⟩)
  have cl : ∀ k, ∀ c ∈ (rfn M O k).cls, c = ⟨[pK0], pK0⟩ ∨ c = ⟨[rpat O k], rbody M k⟩ := fun k c hc => by simpa [rfn] using hc
  refine ⟨⟨?_, ⟨by omega, by omega⟩, fun f hf => ?_⟩, fun f hf => ?_, fun f hf => ?_, fun f hf c hc => ?_, fun f hf c hc => ?_⟩
  · have p : ((ringT M O t).map Fn.w).Perm ((ringL M O).map Fn.w) := by
      refine List.Perm.map _ ?_
      unfold ringT
      refine List.perm_append_comm.trans ?_
      rw [List.take_append_drop]
    exact p.nodup_iff.mpr nd0
  · obtain ⟨k, hk, rfl⟩ := ringT_mem.mp hf
    refine ⟨⟨Nat.le_refl 1, by show 1 ≤ 2; decide⟩, Nat.le_refl 2, fun c hc => ?_⟩
    rcases cl k c hc with rfl | rfl
    · refine ⟨rfl, fun p hp => ?_, by simp [lvL, lv, pK0], ⟨trivial, by simp [pK0, dep, depL], by simp [pK0, cnt, cntL]⟩⟩
      rw [List.mem_singleton.mp hp]
      exact ⟨⟨k0, trivial⟩, by simp [pK0, dep, depL], by simp [pK0, cnt, cntL]⟩
    · refine ⟨rfl, fun p hp => ?_, by simp [lvL, rpat_lv], ⟨⟨trivial, trivial⟩, by simp [rbody, dep, depL], by simp [rbody, cnt, cntL]⟩⟩
      rw [List.mem_singleton.mp hp]
      exact rpat_good O k
  · obtain ⟨k, hk, rfl⟩ := ringT_mem.mp hf
    exact ⟨k, by omega, rfl⟩
  · obtain ⟨k, hk, rfl⟩ := ringT_mem.mp hf
    exact ⟨Int.le_refl 0, by show (0 : Int) < 1; decide⟩
  · obtain ⟨k, hk, rfl⟩ := ringT_mem.mp hf
    intro z hz
    rcases cl k c hc with rfl | rfl
    · simp [lvL, lv, pK0] at hz
    · simp only [lvL, rpat_lv, List.append_nil, List.mem_singleton] at hz
      rw [hz]; decide +kernel
  · obtain ⟨k, hk, rfl⟩ := ringT_mem.mp hf
    rcases cl k c hc with rfl | rfl
    · exact ⟨List.mem_append_left _ k0, trivial⟩
    · refine ⟨inAR _ (Nat.mod_lt _ (by omega)), ?_, trivial⟩
      show ("x" : Str) ∈ lvL [rpat O k]
      simp [lvL, rpat_lv]
theorem ring_call {M O t k : Nat} (m2 : 2 ≤ M) (hk : k < M) : Call (ringT M O t) (fw k) (fw ((k + 1) % M)) := by
  refine ⟨List.mem_map.mpr ⟨rfn M O ((k + 1) % M), ringT_mem.mpr ⟨_, Nat.mod_lt _ (by omega), rfl⟩, rfl⟩, rfn M O k, ringT_mem.mpr ⟨k, hk, rfl⟩, rfl, ⟨[rpat O k], rbody M k⟩, by simp [rfn], ?_⟩
  simp [rbody, nw]
theorem ring_reach {M O t k : Nat} (m2 : 2 ≤ M) (hk : k < M) : ∀ d, Reach (ringT M O t) (fw k) (fw ((k + (d + 1)) % M))
  | 0 => .one (ring_call m2 hk)
  | d + 1 => by
    have h := ring_reach (O := O) (t := t) m2 hk d
    have hl : (k + (d + 1)) % M < M := Nat.mod_lt _ (by omega)
    have c := ring_call (O := O) (t := t) m2 hl
    have e : ((k + (d + 1)) % M + 1) % M = (k + (d + 1 + 1)) % M := by rw [Nat.mod_add_mod]; rfl
    rw [e] at c
    exact .more h c
theorem ring_group {M O t k : Nat} (m2 : 2 ≤ M) (hk : k < M) : InG (ringT M O t) (fw k) (fw ((k + 1) % M)) := by
  refine .inr ⟨ring_reach m2 hk 0, ?_⟩
  have h := ring_reach (O := O) (t := t) m2 (Nat.mod_lt (k + 1) (by omega : M > 0)) (M - 2)
  have e : ((k + 1) % M + (M - 2 + 1)) % M = k := by
    rw [Nat.mod_add_mod, show k + 1 + (M - 2 + 1) = k + M by omega, Nat.add_mod_right, Nat.mod_eq_of_lt hk]
  rwa [e] at h
theorem ring_falls {M O t : Nat} (m2 : 2 ≤ M) (m12 : M ≤ 12) : Falls (ringT M O t) ↔ M ≤ O := by
  have nK : ∀ i, i < 12 → fw i ≠ "K0" := by decide +kernel
  constructor
  · intro h
    rcases Nat.lt_or_ge O M with lt | ge
    · exfalso
      have hc : (⟨[rpat O O], rbody M O⟩ : Cl) ∈ (rfn M O O).cls := by simp [rfn]
      have fc := h (rfn M O O) (ringT_mem.mpr ⟨O, lt, rfl⟩) _ hc (rbody M O) (by simp [rbody, nd])
      have hg : rfn M O ((O + 1) % M) ∈ ringT M O t := ringT_mem.mpr ⟨_, Nat.mod_lt _ (by omega), rfl⟩
      obtain ⟨z, _, hz⟩ := fc _ hg rfl (ring_group m2 lt) [.str "x"] rfl (.str "x") rfl (rpat O O) rfl
      unfold rpat at hz
      rw [if_pos rfl] at hz
      simp [below] at hz
    · exact ge
  · intro ge f hf c hc n hn
    obtain ⟨k, hk, rfl⟩ := ringT_mem.mp hf
    have cl : c = ⟨[pK0], pK0⟩ ∨ c = ⟨[rpat O k], rbody M k⟩ := by simpa [rfn] using hc
    rcases cl with rfl | rfl
    · have en : n = pK0 := by simpa [pK0, nd, ndL] using hn
      subst en
      intro g hg ew
      obtain ⟨j, hj, rfl⟩ := ringT_mem.mp hg
      exact absurd ew (nK j (by omega))
    · have en : n = rbody M k := by simpa [rbody, nd, ndL] using hn
      subst en
      intro g hg ew _ r er x hx p hp
      obtain ⟨j, hj, rfl⟩ := ringT_mem.mp hg
      have e2 : r = [.str "x"] := (List.cons.inj (PV.tup.inj er)).2.symm
      subst e2
      have ex : x = .str "x" := by
        have : ([PV.str "x"] : List PV)[0]? = some x := hx
        simpa using this.symm
      have ep : p = rpat O k := by
        have : ([rpat O k] : List PV)[0]? = some p := hp
        simpa using this.symm
      refine ⟨"x", ex, ?_⟩
      rw [ep, rpat, if_neg (by omega)]
      decide +kernel
theorem mk_int {σ : L2.St} {H0 : Hp} {i : Int} : MkE σ H0 (tC (.int i)) (.int i) := fun H Q s q => q _ H (.refl _) (.int i)
def spRing : Sp := fun vs H Q _ => ∃ d c, vs = [.ref d] ∧ Dr H d c ∧ ∀ a gv fs due H', Ex d c H H' → Dr H' d c → H' a = some (.tup [gv, .bl due]) → Is H' gv (progPV fs) → PgG fs → (due = true ↔ Falls fs) → Q (.ref a) H'
theorem ok_law_ring (T : Txt K mg) (G_law_draw : FnOk P w K mg base CX0 1 T.a_law_draw T.d_law_draw ["state", "many"] spDraw) : FnOk P w K mg base CX0 2 T.a_law_ring T.d_law_ring ["state"] spRing := by
  refine T.F_law_ring.ok sc_law_ring (fun vs H Q E h => ?_) (fun cdv A outer s H vs Q E hr h => ?_)
  · obtain ⟨d, c, rfl, _⟩ := h; rfl
  · obtain ⟨d, c, rfl, hD, q⟩ := h
    have hr_law_draw := hr
    refine ⟨_, (pss_cons (ps_set (i := 1) sc_law_ring.nd rfl (Or.inl rfl) (pe_op op_add pe_int (pe_call G_law_draw hr_law_draw rfl T.m_law_draw T.F_law_draw.kp T.b_law_draw .nil pass0 (pa_cons (pv 0) (pa_cons pe_int pa_nil)))))
    (pss_cons (ps_set (i := 2) sc_law_ring.nd rfl (Or.inl rfl) (pe_call G_law_draw hr_law_draw rfl T.m_law_draw T.F_law_draw.kp T.b_law_draw .nil pass0 (pa_cons (pv 0) (pa_cons (pe_op op_mul pe_int (pv 1)) pa_nil))))
    (pss_cons (ps_set (i := 3) sc_law_ring.nd rfl (Or.inl rfl) (pe_lst pa_nil))
    (pss_cons (ps_for PassesOwn.never rfl (pi_range1 (by rfl) T.z_range (pa_cons (pv 1) pa_nil)) (pg_name (i := 4) sc_law_ring.nd rfl (Or.inl rfl))
    (pss_cons (ps_set (i := 5) sc_law_ring.nd rfl (Or.inl rfl) (pe_ix ix_list (pe_lst (pa_cons (pe_tup (pa_cons pe_str (pa_cons pe_str pa_nil))) (pa_cons pe_str pa_nil))) (pe_callTy call_int1 (by rfl) T.z_int (by decide +kernel) (pa_cons (pe_cmpR op_eq (pv 4) (pv 2) (nomark _)) pa_nil)) (fun _ _ => rfl)))
    (pss_cons (ps_set (i := 6) sc_law_ring.nd rfl (Or.inl rfl) (pe_tup (pa_cons (pe_tup (pa_cons (pe_tup (pa_cons (pe_tup (pa_cons pe_str pa_nil)) pa_nil)) (pa_cons (pe_tup (pa_cons pe_str pa_nil)) pa_nil))) (pa_cons (pe_tup (pa_cons (pe_tup (pa_cons (pv 5) pa_nil)) (pa_cons (pe_tup (pa_cons (pe_op op_add_str pe_str (pe_callTy call_str_int (by rfl) T.z_str (by decide +kernel) (pa_cons (pe_op op_modN (pe_callTy call_int1 (by rfl) T.z_int (by decide +kernel) (pa_cons (pe_op op_add (pv 4) pe_int) pa_nil)) (pv 1)) pa_nil))) (pa_cons pe_str pa_nil))) pa_nil))) pa_nil))))
    (pss_one (ps_expr (pe_bm PySem.F.plainAttrs_list PySem.F.slot_list_append PySem.F.type_list_append mt_append (pv 3) (pa_cons (pe_tup (pa_cons (pe_op op_add_str pe_str (pe_callTy call_str_int (by rfl) T.z_str (by decide +kernel) (pa_cons (pv 4) pa_nil))) (pa_cons (pe_tup (pa_cons (pe_tup (pa_cons pe_str (pa_cons pe_str pa_nil))) pa_nil)) (pa_cons pe_str (pa_cons pe_str (pa_cons pe_int (pa_cons (pv 6) pa_nil))))))) pa_nil)))))))
    (pss_cons (ps_set (i := 7) sc_law_ring.nd rfl (Or.inl rfl) (pe_call G_law_draw hr_law_draw rfl T.m_law_draw T.F_law_draw.kp T.b_law_draw .nil pass0 (pa_cons (pv 0) (pa_cons (pv 1) pa_nil))))
    (pss_one (ps_ret (pe_tup (pa_cons (pe_tup (pa_cons pe_str (pa_cons (pe_callTy call_tuple_of (by rfl) T.z_tuple (by decide +kernel) (pa_cons (pe_op op_cat (pe_slice sl_list (pv 3) (po_some (pv 7)) po_none) (pe_slice sl_list (pv 3) po_none (po_some (pv 7)))) pa_nil)) pa_nil))) (pa_cons (pe_cmpR op_ge (pv 2) (pv 1) (nomark _)) pa_nil)))))))))), ?_⟩
    refine ⟨_, rfl, d, c, 11, rfl, hD, by decide, by decide, fun r0 H1 r00 r04 x1 D1 => ⟨_, _, rfl, rfl, ?_⟩⟩
    obtain ⟨m, hm, rfl⟩ : ∃ m : Nat, m < 11 ∧ r0 = (m : Int) := ⟨r0.toNat, by omega, by omega⟩
    have em : (2 : Int) + (m : Int) = ((m + 2 : Nat) : Int) := by omega
    show gName 1 (V.int (2 + (m : Int))) _ _ _
    rw [em]
    refine ⟨_, rfl, _, rfl, _, _, rfl, rfl, .inl ⟨by decide, by decide⟩, d, c, 2 * ((m + 2 : Nat) : Int), rfl, D1, by omega, by omega, fun r1 H2 r10 r14 x2 D2 => ?_⟩
    obtain ⟨o, ho, rfl⟩ : ∃ o : Nat, o < 2 * (m + 2) ∧ r1 = (o : Int) := ⟨r1.toNat, by omega, by omega⟩
    refine ⟨(by show 0 ≤ sizeLine; decide), fun fl hfl => ?_⟩
    have s3 := same_upd hfl (.lst [])
    obtain ⟨n1, n2⟩ := D2.free hfl
    generalize hM : m + 2 = M at *
    refine ⟨_, rfl, (M : Int), rfl, by omega, by omega, ?_⟩
    refine for_range (n := M) (fun i σ H3 => i ≤ M ∧ ∃ (y4 y5 y6 : Option V) (vs : List V), σ = [some (.ref d), some (.int (M : Int)), some (.int (o : Int)), some (.ref fl), y4, y5, y6, none] ∧ Same H2 H3 ∧ H3 fl = some (.lst vs) ∧ IsL H3 vs (((List.range i).map (rfn M o)).map fnPV)) ?_ ?_ ?_
    · exact ⟨Nat.zero_le _, none, none, none, [], rfl, s3, upd_same, .nil⟩
    · rintro i σ H3 hi ⟨_, y4, y5, y6, vs, rfl, sm, efl, iV⟩
      have i12 : i < 12 := by omega
      rw [Int.zero_add]
      refine ⟨(by show 2 ≤ sizeLine; decide), fun p hp => ⟨(by show 2 ≤ sizeLine; decide), fun L hL => ?_⟩⟩
      have s4 := same_upd hp (.tup [.str "K1", .str "x"])
      have s5 := same_upd hL (.lst [.ref p, .str "x"])
      have s45 := s4.trans s5
      have ok1 : sok "K1" = true := by decide +kernel
      have okx : sok "x" = true := by decide +kernel
      have ip : Is (upd (upd H3 p (.tup [.str "K1", .str "x"])) L (.lst [.ref p, .str "x"])) (.ref p) pKx := .tup (s5 _ _ upd_same) (.cons (.str _ ok1) (.cons (.str _ okx) .nil))
      have eL : (upd (upd H3 p (.tup [.str "K1", .str "x"])) L (.lst [.ref p, .str "x"])) L = some (.lst [.ref p, .str "x"]) := upd_same
      generalize upd (upd H3 p (.tup [.str "K1", .str "x"])) L (.lst [.ref p, .str "x"]) = H4 at *
      refine ⟨_, rfl, _, rfl, rfl, .inr ⟨_, rfl, ?_⟩⟩
      obtain ⟨u, iu, eu⟩ : ∃ u, Is H4 u (rpat o i) ∧ atI [V.ref p, V.str "x"] (if decide (V.int (i : Int) = V.int (o : Int)) = true then 1 else 0) = some u := by
        by_cases e : i = o
        · have : decide (V.int (i : Int) = V.int (o : Int)) = true := by rw [e]; exact decide_eq_true rfl
          rw [this, rpat, if_pos e]
          exact ⟨.str "x", .str _ okx, atI_nat (j := 1) rfl⟩
        · have : decide (V.int (i : Int) = V.int (o : Int)) = false := decide_eq_false fun q => e (by have := V.int.inj q; omega)
          rw [this, rpat, if_neg e]
          exact ⟨.ref p, ip, atI_nat (j := 0) rfl⟩
      refine ⟨L, _, _, u, rfl, rfl, SqL.of eL, eu, ?_⟩
      have hlt : (i + 1) % M < 12 := Nat.lt_of_lt_of_le (Nat.mod_lt _ (by omega)) (by omega)
      dsimp only [gName]
      refine go_asg (t := .tup ((rfn M o i).cls.map clPV)) ?_ fun v6 H5 s6 i6 => ?_
      · show MkE _ _ _ (.tup [.tup [.tup [.tup [.str "K0"]], .tup [.str "K0"]], .tup [.tup [rpat o i], .tup [.str (fw ((i + 1) % M)), .str "x"]]])
        (repeat (first | exact mk_nil | refine mk_cons ?_ ?_ | refine mk_tup ?_ (by simp) | exact mk_str (by decide +kernel) | (refine mk_var rfl ?_; assumption)))
        · refine fun H Q s q => ⟨_, rfl, _, _, rfl, rfl, .inl ⟨_, rfl, _, rfl, ?_⟩⟩
          have efm : ((i : Int) + 1).fmod (M : Int) = (((i + 1) % M : Nat) : Int) := by
            rw [Int.fmod_eq_emod_of_nonneg _ (by omega)]
            exact (Int.natCast_emod (i + 1) M).symm
          refine ⟨_, _, rfl, rfl, by omega, ?_⟩
          dsimp only
          rw [efm]
          exact ⟨_, rfl, num_log _ hlt, _, _, rfl, rfl, num_len _ hlt, q _ H (.refl _) (.str (fw ((i + 1) % M)) (fw_ok _ hlt))⟩
        all_goals (repeat (first | exact mk_nil | refine mk_cons ?_ ?_ | refine mk_tup ?_ (by simp) | exact mk_str (by decide +kernel)))
      have s35 := (s45.trans s6)
      have efl5 := s35 _ _ efl
      refine ⟨_, rfl, .inl ⟨rfl, _, SqL.of efl5⟩, ?_⟩
      refine mk_go (t := fnPV (rfn M o i)) ?_ fun v H6 s6' i6' => ?_
      · show MkE _ _ _ (.tup [.str (fw i), .tup [.tup [.str "Fa", .str "a"]], .str "Fa", .str "a", .int 0, .tup ((rfn M o i).cls.map clPV)])
        refine mk_tup (mk_cons (fun H Q s q => ⟨_, rfl, _, rfl, num_log _ i12, _, _, rfl, rfl, num_len _ i12, q _ H (.refl _) (.str (fw i) (fw_ok _ i12))⟩) ?_) (by simp)
        (repeat (first | exact mk_nil | exact mk_int | refine mk_cons ?_ ?_ | refine mk_tup ?_ (by simp) | exact mk_str (by decide +kernel) | (refine mk_var rfl ?_; assumption)))
      have lV := iV.len
      rw [List.length_map, List.length_map, List.length_range] at lV
      have s36 := s35.trans s6'
      have efl6 := s36 _ _ efl
      refine ⟨fl, vs, v, rfl, rfl, efl6, small1000 (by omega), by omega, _, _, _, vs ++ [v], rfl, Kx.Same.own (sm.trans s36) hfl _, upd_same, IsL.tk (Tk.wr ⟨_, efl6⟩) ?_⟩
      rw [List.range_succ, List.map_append, List.map_append]
      exact (iV.same s36).append (.cons i6' .nil)
    · rintro σ H3 ⟨_, y4, y5, y6, vs, rfl, sm, efl, iV⟩
      have lV := iV.len
      rw [List.length_map, List.length_map, List.length_range] at lV
      have D3 := D2.same sm
      refine ⟨_, rfl, _, rfl, d, c, (M : Int), rfl, D3, by omega, by omega, fun r2 H4 r20 r24 x4 D4 => ?_⟩
      obtain ⟨t, ht, rfl⟩ : ∃ t : Nat, t < M ∧ r2 = (t : Int) := ⟨r2.toNat, by omega, by omega⟩
      have efl4 := x4.but _ _ n1 n2 efl
      have iV4 : IsL H4 vs ((ringL M o).map fnPV) := IsL.ex x4 D3 iV
      refine ⟨_, rfl, _, rfl, _, rfl, fl, vs, rfl, SqL.of efl4, fun p1 hp1 => ?_⟩
      rw [cut_from vs (by omega)]
      have s5 := same_upd hp1 (.lst (vs.drop t))
      refine ⟨_, rfl, _, rfl, _, rfl, fl, vs, rfl, SqL.of (s5 _ _ efl4), fun p2 hp2 => ?_⟩
      rw [cut_to vs (by omega)]
      have s6 := same_upd hp2 (.lst (vs.take t))
      refine ⟨p1, p2, _, _, rfl, rfl, s6 _ _ upd_same, upd_same, Nat.le_of_lt (small1000 (by rw [List.length_drop, List.length_take]; omega)), fun p3 hp3 => ?_⟩
      have s7 := same_upd hp3 (.lst (vs.drop t ++ vs.take t))
      refine ⟨p3, _, rfl, .inl ⟨SqL.of upd_same, fun p4 hp4 => ?_⟩⟩
      have s8 := same_upd hp4 (.tup (vs.drop t ++ vs.take t))
      refine ⟨(by show 2 ≤ sizeLine; decide), fun p5 hp5 => ?_⟩
      have s9 := same_upd hp5 (.tup [.str "program", .ref p4])
      refine ⟨_, rfl, _, rfl, _, _, rfl, rfl, (by show 2 ≤ sizeLine; decide), fun p6 hp6 => ?_⟩
      have s10 := same_upd hp6 (.tup [.ref p5, .bl (decide ((o : Int) ≥ (M : Int)))])
      have ss := ((((s5.trans s6).trans s7).trans s8).trans s9).trans s10
      have s59 := (((s5.trans s6).trans s7).trans s8)
      refine q p6 (.ref p5) (ringT M o t) (decide ((o : Int) ≥ (M : Int))) _ ((((x1.trans x2).trans (.of sm)).trans x4).trans (.of ss)) (D4.same ss) upd_same ?_ (ring_pg (by omega) (by omega)) ?_
      · refine Is.same s10 (.tup upd_same (.cons (.str _ (by decide +kernel)) (.cons (.tup (s9 _ _ upd_same) ?_) .nil)))
        have e : (ringT M o t).map fnPV = ((ringL M o).map fnPV).drop t ++ ((ringL M o).map fnPV).take t := by
          rw [ringT, List.map_append, List.map_drop, List.map_take]
        rw [e]
        exact ((iV4.drop t).append (iV4.take t)).same (s59.trans s9)
      · rw [ring_falls (by omega) (by omega), decide_eq_true_iff]
        omega
end
end Kx
namespace Kx
open PySem PySem.Spec PyProof.Rows L2
section
variable {P : Program} {w : World} {K : PySem.W.Frag} {mg : Str → Option Value} {base : Heap}
set_option pp.maxSteps 900
theorem all_body (T : Txt K mg) : ∀ n, FnOk P w K mg base CX0 (n + 2) T.a_law_graph_body T.d_law_graph_body ["state", "places", "names", "deep", "most"] (spBody n)
  | 0 => no_left fun vs H Q E ⟨_, _, _, _, _, _, _, _, _, _, _, _, _, h, _⟩ => by omega
  | n + 1 => ok_law_graph_body T (ok_law_draw T) (ok_law_pick T (ok_law_draw T)) (all_body T n)
theorem all_lnames (T : Txt K mg) : ∀ n, FnOk P w K mg base CX0 (n + 1) T.a_law_names T.d_law_names ["term"] (spNames n)
  | 0 => no_left fun vs H Q E ⟨_, t, _, _, _, h, _⟩ => by have := cnt_pos t; omega
  | n + 1 => ok_law_names T (all_lnames T n)
theorem all_take (T : Txt K mg) : ∀ n, FnOk P w K mg base CX0 (2 * n + 1) T.a_Scope_take_pattern T.d_Scope_take_pattern ["self", "pattern", "family"] (spTest T.c_Scope true n)
  | 0 => no_left fun vs H Q E ⟨_, _, _, _, _, _, _, _, _, t, _, _, _, _, h, _⟩ => by have := dep_pos t; omega
  | n + 1 => ok_Scope_take_pattern T (ok_Scope_are_parts T (all_take T n) T.bm_Scope_take_pattern.fi T.b_Scope_take_pattern) (ok_constructor_of T) (ok_Scope_take_name T (ok_is_word T) (ok_constructor_of T) (ok_function_of T))
theorem all_body2 (T : Txt K mg) : ∀ n, FnOk P w K mg base CX0 (2 * n + 1) T.a_Scope_has_body T.d_Scope_has_body ["self", "body", "family"] (spTest T.c_Scope false n)
  | 0 => no_left fun vs H Q E ⟨_, _, _, _, _, _, _, _, _, t, _, _, _, _, h, _⟩ => by have := dep_pos t; omega
  | n + 1 => ok_Scope_has_body T (ok_Scope_are_parts T (all_body2 T n) T.bm_Scope_has_body.fi T.b_Scope_has_body) (ok_constructor_of T) (ok_function_of T)
def spLaw (K : PySem.W.Frag) : Sp := fun vs H Q _ => ∃ (a : Addr) (ns : List Int), vs = [.ref a] ∧ SqL K H a (ns.map V.int) ∧ ns.length ≤ 63 ∧ ∀ H', Q (.bl true) H'
theorem ok_law (T : Txt K mg) (G_law_state : FnOk P w K mg base CX0 1 T.a_law_state T.d_law_state ["script"] (spState K)) (G_law_graph_table : FnOk P w K mg base CX0 1 T.a_law_graph_table T.d_law_graph_table [] spLTab) (G_law_ring : FnOk P w K mg base CX0 2 T.a_law_ring T.d_law_ring ["state"] spRing) (G_is_program : FnOk P w K mg base CX0 13 T.a_is_program T.d_is_program ["table", "value"] spProgram) (G_law_graph_program : FnOk P w K mg base CX0 15 T.a_law_graph_program T.d_law_graph_program ["state"] spGraph) (G_law_falls : FnOk P w K mg base CX0 15 T.a_law_falls T.d_law_falls ["program"] spIF) : FnOk P w K mg base CX0 17 T.a_law T.d_law ["script"] (spLaw K) := by
  refine T.F_law.ok sc_law (fun vs H Q E h => ?_) (fun cdv A outer s H vs Q E hr h => ?_)
  · obtain ⟨a, ns, rfl, _⟩ := h; rfl
  · obtain ⟨a, ns, rfl, hS, h63, q⟩ := h
    have hr_law_state : Room 1 _ := hr.mono (by decide)
    have hr_law_graph_table : Room 1 _ := hr.mono (by decide)
    have hr_law_ring : Room 2 _ := hr.mono (by decide)
    have hr_is_program : Room 13 _ := hr.mono (by decide)
    have hr_law_graph_program : Room 15 _ := hr.mono (by decide)
    have hr_law_falls : Room 15 _ := hr.mono (by decide)
    refine ⟨_, (pss_cons (ps_set (i := 1) sc_law.nd rfl (Or.inl rfl) (pe_call G_law_state hr_law_state rfl T.m_law_state T.F_law_state.kp T.b_law_state .nil pass0 (pa_cons (pv 0) pa_nil)))
    (pss_cons (ps_set (i := 2) sc_law.nd rfl (Or.inl rfl) (pe_call0 G_law_graph_table hr_law_graph_table rfl T.m_law_graph_table T.F_law_graph_table.kp T.b_law_graph_table .nil pass0))
    (Evl.pss_cut (ps_for PassesOwn.never rfl (pi_range1 (by rfl) T.z_range (pa_cons pe_int pa_nil)) (pg_name (i := 3) sc_law.nd rfl (Or.inl rfl))
    (pss_cons (ps_asg (pe_call G_law_ring hr_law_ring rfl T.m_law_ring T.F_law_ring.kp T.b_law_ring .nil pass0 (pa_cons (pv 1) pa_nil)) (pg_tup rfl (pgs_cons (pg_name (i := 4) sc_law.nd rfl (Or.inl rfl)) (pgs_cons (pg_name (i := 5) sc_law.nd rfl (Or.inl rfl)) pgs_nil))))
    (pss_cons (ps_set (i := 6) sc_law.nd rfl (Or.inl rfl) (pe_call G_is_program hr_is_program rfl T.m_is_program T.F_is_program.kp T.b_is_program .nil pass0 (pa_cons (pv 2) (pa_cons (pv 4) pa_nil))))
    (pss_one (ps_if (PW.pt (pw_or (pt_not (pt_val (pe_callB call_isi (by rfl) T.z_isinstance (by decide +kernel) (pa_cons (pv 6) (pa_cons (pe_bltn rfl T.z_bool (by decide +kernel) (show RelV (V.ty "bool") (Value.type "bool") from rfl)) pa_nil))))) (pw_or1 (pt_cmpR op_ne (pv 6) (pv 5) (nomark _))))) (pss_one (ps_ret pe_bl)) pss_nil)))))
    (Evl.pss_cut (ps_for PassesOwn.never rfl (pi_range1 (by rfl) T.z_range (pa_cons pe_int pa_nil)) (pg_name (i := 3) sc_law.nd rfl (Or.inl rfl))
    (pss_cons (ps_set (i := 4) sc_law.nd rfl (Or.inl rfl) (pe_call G_law_graph_program hr_law_graph_program rfl T.m_law_graph_program T.F_law_graph_program.kp T.b_law_graph_program .nil pass0 (pa_cons (pv 1) pa_nil)))
    (pss_cons (ps_set (i := 6) sc_law.nd rfl (Or.inl rfl) (pe_call G_is_program hr_is_program rfl T.m_is_program T.F_is_program.kp T.b_is_program .nil pass0 (pa_cons (pv 2) (pa_cons (pv 4) pa_nil))))
    (pss_one (ps_if (PW.pt (pw_or (pt_not (pt_val (pe_callB call_isi (by rfl) T.z_isinstance (by decide +kernel) (pa_cons (pv 6) (pa_cons (pe_bltn rfl T.z_bool (by decide +kernel) (show RelV (V.ty "bool") (Value.type "bool") from rfl)) pa_nil))))) (pw_or1 (pt_cmpR op_ne (pv 6) (pe_call G_law_falls hr_law_falls rfl T.m_law_falls T.F_law_falls.kp T.b_law_falls .nil pass0 (pa_cons (pv 4) pa_nil)) (nomark _))))) (pss_one (ps_ret pe_bl)) pss_nil)))))
    (pss_one (ps_ret pe_bl)))))), ?_⟩
    refine ⟨_, rfl, a, ns, rfl, hS, h63, fun d c H1 s1 D1 => ?_⟩
    refine ⟨rfl, fun tv H2 s2 hT => ?_⟩
    have D2 := D1.same s2
    have ne0 : ∀ b : Bool, (!decide (V.bl b = V.bl b)) = false := fun b => by simp
    refine ⟨fun σ H3 => ∃ y3 y4 y5 y6, σ = [some (.ref a), some (.ref d), some tv, y3, y4, y5, y6] ∧ Dr H3 d c ∧ TabAt H3 tv, ?_, ?_⟩
    · refine ⟨3, rfl, by decide, by decide, ?_⟩
      refine for_range (n := 3) (fun i σ H3 => ∃ y3 y4 y5 y6, σ = [some (.ref a), some (.ref d), some tv, y3, y4, y5, y6] ∧ Dr H3 d c ∧ TabAt H3 tv) ?_ ?_ ?_
      · exact ⟨_, _, _, _, rfl, D2, hT⟩
      · rintro i σ H3 hi ⟨y3, y4, y5, y6, rfl, D3, T3⟩
        refine ⟨_, rfl, d, c, rfl, D3, fun pa gv fs due H4 x4 D4 epa iG G hd => ?_⟩
        have T4 := T3.ex' x4 D3
        refine ⟨pa, _, rfl, .inl (.inl epa), rfl, _, _, rfl, _, _, rfl, rfl, ?_⟩
        refine ⟨_, rfl, _, rfl, tv, gv, fs, rfl, T4, iG, G, fun r H5 s5 hr5 => ?_⟩
        obtain rfl : r = due := by
          cases r <;> cases due <;> simp_all
        refine ⟨_, rfl, _, _, .type "bool", .type "bool", true, rfl, .ty _, .base (by constructor), by simp [PySem.W.kitOne], _, rfl, iteF ?_⟩
        refine ⟨_, rfl, _, rfl, rfl, _, rfl, ?_⟩
        rw [ne0]
        exact iteF ⟨_, _, _, _, rfl, D4.same s5, T4.same s5⟩
      · rintro σ H3 h
        exact h
    rintro σ H3 ⟨y3, y4, y5, y6, rfl, D3, T3⟩
    refine ⟨fun σ H4 => ∃ y3 y4 y5 y6, σ = [some (.ref a), some (.ref d), some tv, y3, y4, y5, y6] ∧ Dr H4 d c ∧ TabAt H4 tv, ?_, ?_⟩
    · refine ⟨6, rfl, by decide, by decide, ?_⟩
      refine for_range (n := 6) (fun i σ H4 => ∃ y3 y4 y5 y6, σ = [some (.ref a), some (.ref d), some tv, y3, y4, y5, y6] ∧ Dr H4 d c ∧ TabAt H4 tv) ?_ ?_ ?_
      · exact ⟨_, _, _, _, rfl, D3, T3⟩
      · rintro i σ H4 hi ⟨y3, y4, y5, y6, rfl, D4, T4⟩
        refine ⟨_, rfl, d, c, rfl, D4, fun gv fs H5 x5 D5 iG G => ?_⟩
        have T5 := T4.ex' x5 D4
        refine ⟨_, rfl, _, rfl, tv, gv, fs, rfl, T5, iG, G, fun r H6 s6 hr6 => ?_⟩
        refine ⟨_, rfl, _, _, .type "bool", .type "bool", true, rfl, .ty _, .base (by constructor), by simp [PySem.W.kitOne], _, rfl, iteF ?_⟩
        refine ⟨_, rfl, _, rfl, gv, fs, rfl, iG.same s6, G, fun r' H7 s7 hr7 => ?_⟩
        obtain rfl : r = r' := by
          cases r <;> cases r' <;> simp_all
        refine ⟨rfl, _, rfl, ?_⟩
        rw [ne0]
        exact iteF ⟨_, _, _, _, rfl, (D5.same s6).same s7, (T5.same s6).same s7⟩
      · rintro σ H4 h
        exact h
    · rintro σ H4 _
      exact q H4
end
end Kx
set_option maxHeartbeats 4000000
/-! The end: the program's top leaves the defs where the text says. -/
namespace Kx
open PySem L2
theorem all_mk {l : PySem.W.OpenLaw} {w : World} {K : PySem.W.Frag} {h : Heap} {mg : Str → Option Value} {fa f0 f1 f2 f3 f4 f5 f6 f7 f8 f9 f10 f11 f12 f13 f14 f15 f16 f17 f18 f19 f20 f21 f22 f23 f24 f25 f26 f27 f28 f29 f30 f31 f32 f33 f34 f35 f36 f37 f38 f39 f40 f41 f42 f43 f44 f45 : Addr} (X : K.In h) (G : h.Ns mainGlobals mg) (hfa : mg "law" = some (.ref fa))
    {od0 an0 od1 an1 od2 an2 od3 an3 od4 an4 od5 an5 od6 an6 od7 an7 od8 an8 od9 an9 od10 an10 od11 an11 od12 an12 od13 an13 od14 an14 od15 an15 od16 an16 od17 an17 od18 an18 od19 an19 od20 an20 od21 an21 od22 an22 od23 an23 od24 an24 od25 an25 od26 an26 od27 an27 od28 an28 od29 an29 od30 an30 od31 an31 od32 an32 od33 an33 od34 an34 od35 an35 od36 an36 od37 an37 od38 an38 od39 an39 od40 an40 od41 an41 od42 an42 od43 an43 od44 an44 od45 an45 : Option Addr} {sl0 sl1 sl2 sl3 sl4 sl5 sl6 sl7 sl8 sl9 sl10 sl11 sl12 sl13 sl14 sl15 sl16 sl17 sl18 sl19 sl20 sl21 sl22 sl23 sl24 sl25 sl26 sl27 sl28 sl29 sl30 sl31 sl32 sl33 sl34 sl35 sl36 sl37 sl38 sl39 sl40 sl41 sl42 sl43 sl44 sl45 : Array (Option Value)} {oc0 kV0 dc0 pm0 cd0 ct0 oc1 kV1 dc1 pm1 cd1 ct1 oc2 kV2 dc2 pm2 cd2 ct2 oc3 kV3 dc3 pm3 cd3 ct3 oc4 kV4 dc4 pm4 cd4 ct4 oc5 kV5 dc5 pm5 cd5 ct5 oc6 kV6 dc6 pm6 cd6 ct6 oc7 kV7 dc7 pm7 cd7 ct7 oc8 kV8 dc8 pm8 cd8 ct8 oc9 kV9 dc9 pm9 cd9 ct9 oc10 kV10 dc10 pm10 cd10 ct10 oc11 kV11 dc11 pm11 cd11 ct11 oc12 kV12 dc12 pm12 cd12 ct12 oc13 kV13 dc13 pm13 cd13 ct13 oc14 kV14 dc14 pm14 cd14 ct14 oc15 kV15 dc15 pm15 cd15 ct15 oc16 kV16 dc16 pm16 cd16 ct16 oc17 kV17 dc17 pm17 cd17 ct17 oc18 kV18 dc18 pm18 cd18 ct18 oc19 kV19 dc19 pm19 cd19 ct19 oc20 kV20 dc20 pm20 cd20 ct20 oc21 kV21 dc21 pm21 cd21 ct21 oc22 kV22 dc22 pm22 cd22 ct22 oc23 kV23 dc23 pm23 cd23 ct23 oc24 kV24 dc24 pm24 cd24 ct24 oc25 kV25 dc25 pm25 cd25 ct25 oc26 kV26 dc26 pm26 cd26 ct26 oc27 kV27 dc27 pm27 cd27 ct27 oc28 kV28 dc28 pm28 cd28 ct28 oc29 kV29 dc29 pm29 cd29 ct29 oc30 kV30 dc30 pm30 cd30 ct30 oc31 kV31 dc31 pm31 cd31 ct31 oc32 kV32 dc32 pm32 cd32 ct32 oc33 kV33 dc33 pm33 cd33 ct33 oc34 kV34 dc34 pm34 cd34 ct34 oc35 kV35 dc35 pm35 cd35 ct35 oc36 kV36 dc36 pm36 cd36 ct36 oc37 kV37 dc37 pm37 cd37 ct37 oc38 kV38 dc38 pm38 cd38 ct38 oc39 kV39 dc39 pm39 cd39 ct39 oc40 kV40 dc40 pm40 cd40 ct40 oc41 kV41 dc41 pm41 cd41 ct41 oc42 kV42 dc42 pm42 cd42 ct42 oc43 kV43 dc43 pm43 cd43 ct43 oc44 kV44 dc44 pm44 cd44 ct44 oc45 kV45 dc45 pm45 cd45 ct45 : Value}
    {C0 : Addr} (aC0 : PySem.W.nsIn K mainGlobals "Kept" = some (some (.ref C0))) (pg0 : PySem.W.plainGet K C0 Str.empty = true) (hd0 : PySem.W.hasDictIn K C0 = true) (po0 : PySem.W.plainOver K C0 = true) (sa0 : PySem.W.findIn K (.ref C0) "__setattr__" = some (some (.builtin "object.__setattr__"))) (mk0 : PySem.W.makesIn K C0 = true) (kc0 : PySem.W.keepIn K (.ref C0) = true) (nx0_0 : PySem.W.findIn K (.ref C0) "rows" = some none)
    {C1 : Addr} (aC1 : PySem.W.nsIn K mainGlobals "Scope" = some (some (.ref C1))) (pg1 : PySem.W.plainGet K C1 Str.empty = true) (hd1 : PySem.W.hasDictIn K C1 = true) (po1 : PySem.W.plainOver K C1 = true) (sa1 : PySem.W.findIn K (.ref C1) "__setattr__" = some (some (.builtin "object.__setattr__"))) (mk1 : PySem.W.makesIn K C1 = true) (kc1 : PySem.W.keepIn K (.ref C1) = true) (nx1_0 : PySem.W.findIn K (.ref C1) "table" = some none) (nx1_1 : PySem.W.findIn K (.ref C1) "program" = some none) (nx1_2 : PySem.W.findIn K (.ref C1) "families" = some none) (nx1_3 : PySem.W.findIn K (.ref C1) "left" = some none)
    {ti0 : Tok} (gi0 : PySem.W.nsIn K mainGlobals "MOST_KEPT" = some (some (.int 32 ti0)))
    {ti1 : Tok} (gi1 : PySem.W.nsIn K mainGlobals "MOST_NAME" = some (some (.int 12 ti1)))
    {ti2 : Tok} (gi2 : PySem.W.nsIn K mainGlobals "MOST_PARTS" = some (some (.int 3 ti2)))
    {ti3 : Tok} (gi3 : PySem.W.nsIn K mainGlobals "MOST_NAMES" = some (some (.int 4 ti3)))
    {ti4 : Tok} (gi4 : PySem.W.nsIn K mainGlobals "MOST_DEEP" = some (some (.int 4 ti4)))
    {ti5 : Tok} (gi5 : PySem.W.nsIn K mainGlobals "MOST_FUNCTIONS" = some (some (.int 12 ti5)))
    {ti6 : Tok} (gi6 : PySem.W.nsIn K mainGlobals "MOST_CLAUSES" = some (some (.int 12 ti6)))
    {ti7 : Tok} (gi7 : PySem.W.nsIn K mainGlobals "MOST_PATTERN" = some (some (.int 6 ti7)))
    {ti8 : Tok} (gi8 : PySem.W.nsIn K mainGlobals "MOST_BODY" = some (some (.int 30 ti8)))
    (a0 : PySem.W.findIn K (.ref C0) "__init__" = some (some (.ref f0))) (i0 : PySem.W.isFn K (.ref f0) = true) (l0 : K.lookup f0 = some ⟨oc0, od0, .func (PySem.W.fnOf "__init__" "Kept.__init__" (defArgs s_Kept_init) (defBody s_Kept_init) (defScope s_Kept_init) .none kV0 dc0 pm0 an0 cd0 ct0), sl0⟩) (c0 : PySem.W.codeIn K cd0 "Kept.__init__" = true) (k0 : PySem.W.keepIn K (.ref f0) = true)
    (a1 : PySem.W.findIn K (.ref C0) "pair_of" = some (some (.ref f1))) (i1 : PySem.W.isFn K (.ref f1) = true) (l1 : K.lookup f1 = some ⟨oc1, od1, .func (PySem.W.fnOf "pair_of" "Kept.pair_of" (defArgs s_Kept_pair_of) (defBody s_Kept_pair_of) (defScope s_Kept_pair_of) .none kV1 dc1 pm1 an1 cd1 ct1), sl1⟩) (c1 : PySem.W.codeIn K cd1 "Kept.pair_of" = true) (k1 : PySem.W.keepIn K (.ref f1) = true)
    (a2 : PySem.W.findIn K (.ref C0) "keep" = some (some (.ref f2))) (i2 : PySem.W.isFn K (.ref f2) = true) (l2 : K.lookup f2 = some ⟨oc2, od2, .func (PySem.W.fnOf "keep" "Kept.keep" (defArgs s_Kept_keep) (defBody s_Kept_keep) (defScope s_Kept_keep) .none kV2 dc2 pm2 an2 cd2 ct2), sl2⟩) (c2 : PySem.W.codeIn K cd2 "Kept.keep" = true) (k2 : PySem.W.keepIn K (.ref f2) = true)
    (a3 : PySem.W.nsIn K mainGlobals "is_term" = some (some (.ref f3))) (l3 : K.lookup f3 = some ⟨oc3, od3, .func (PySem.W.fnOf "is_term" "is_term" (defArgs s_is_term) (defBody s_is_term) (defScope s_is_term) .none kV3 dc3 pm3 an3 cd3 ct3), sl3⟩) (c3 : PySem.W.codeIn K cd3 "is_term" = true) (k3 : PySem.W.keepIn K (.ref f3) = true)
    (a4 : PySem.W.nsIn K mainGlobals "_has_form" = some (some (.ref f4))) (l4 : K.lookup f4 = some ⟨oc4, od4, .func (PySem.W.fnOf "_has_form" "_has_form" (defArgs s_has_form) (defBody s_has_form) (defScope s_has_form) .none kV4 dc4 pm4 an4 cd4 ct4), sl4⟩) (c4 : PySem.W.codeIn K cd4 "_has_form" = true) (k4 : PySem.W.keepIn K (.ref f4) = true)
    (a5 : PySem.W.nsIn K mainGlobals "names_of" = some (some (.ref f5))) (l5 : K.lookup f5 = some ⟨oc5, od5, .func (PySem.W.fnOf "names_of" "names_of" (defArgs s_names_of) (defBody s_names_of) (defScope s_names_of) .none kV5 dc5 pm5 an5 cd5 ct5), sl5⟩) (c5 : PySem.W.codeIn K cd5 "names_of" = true) (k5 : PySem.W.keepIn K (.ref f5) = true)
    (a6 : PySem.W.nsIn K mainGlobals "is_word" = some (some (.ref f6))) (l6 : K.lookup f6 = some ⟨oc6, od6, .func (PySem.W.fnOf "is_word" "is_word" (defArgs s_is_word) (defBody s_is_word) (defScope s_is_word) .none kV6 dc6 pm6 an6 cd6 ct6), sl6⟩) (c6 : PySem.W.codeIn K cd6 "is_word" = true) (k6 : PySem.W.keepIn K (.ref f6) = true)
    (a7 : PySem.W.nsIn K mainGlobals "is_row" = some (some (.ref f7))) (l7 : K.lookup f7 = some ⟨oc7, od7, .func (PySem.W.fnOf "is_row" "is_row" (defArgs s_is_row) (defBody s_is_row) (defScope s_is_row) .none kV7 dc7 pm7 an7 cd7 ct7), sl7⟩) (c7 : PySem.W.codeIn K cd7 "is_row" = true) (k7 : PySem.W.keepIn K (.ref f7) = true)
    (a8 : PySem.W.nsIn K mainGlobals "is_integer" = some (some (.ref f8))) (l8 : K.lookup f8 = some ⟨oc8, od8, .func (PySem.W.fnOf "is_integer" "is_integer" (defArgs s_is_integer) (defBody s_is_integer) (defScope s_is_integer) .none kV8 dc8 pm8 an8 cd8 ct8), sl8⟩) (c8 : PySem.W.codeIn K cd8 "is_integer" = true) (k8 : PySem.W.keepIn K (.ref f8) = true)
    (a9 : PySem.W.nsIn K mainGlobals "is_kind" = some (some (.ref f9))) (l9 : K.lookup f9 = some ⟨oc9, od9, .func (PySem.W.fnOf "is_kind" "is_kind" (defArgs s_is_kind) (defBody s_is_kind) (defScope s_is_kind) .none kV9 dc9 pm9 an9 cd9 ct9), sl9⟩) (c9 : PySem.W.codeIn K cd9 "is_kind" = true) (k9 : PySem.W.keepIn K (.ref f9) = true)
    (a10 : PySem.W.nsIn K mainGlobals "_is_deeper" = some (some (.ref f10))) (l10 : K.lookup f10 = some ⟨oc10, od10, .func (PySem.W.fnOf "_is_deeper" "_is_deeper" (defArgs s_is_deeper) (defBody s_is_deeper) (defScope s_is_deeper) .none kV10 dc10 pm10 an10 cd10 ct10), sl10⟩) (c10 : PySem.W.codeIn K cd10 "_is_deeper" = true) (k10 : PySem.W.keepIn K (.ref f10) = true)
    (a11 : PySem.W.nsIn K mainGlobals "constructor_of" = some (some (.ref f11))) (l11 : K.lookup f11 = some ⟨oc11, od11, .func (PySem.W.fnOf "constructor_of" "constructor_of" (defArgs s_constructor_of) (defBody s_constructor_of) (defScope s_constructor_of) .none kV11 dc11 pm11 an11 cd11 ct11), sl11⟩) (c11 : PySem.W.codeIn K cd11 "constructor_of" = true) (k11 : PySem.W.keepIn K (.ref f11) = true)
    (a12 : PySem.W.nsIn K mainGlobals "words_of" = some (some (.ref f12))) (l12 : K.lookup f12 = some ⟨oc12, od12, .func (PySem.W.fnOf "words_of" "words_of" (defArgs s_words_of) (defBody s_words_of) (defScope s_words_of) .none kV12 dc12 pm12 an12 cd12 ct12), sl12⟩) (c12 : PySem.W.codeIn K cd12 "words_of" = true) (k12 : PySem.W.keepIn K (.ref f12) = true)
    (a13 : PySem.W.nsIn K mainGlobals "is_program" = some (some (.ref f13))) (l13 : K.lookup f13 = some ⟨oc13, od13, .func (PySem.W.fnOf "is_program" "is_program" (defArgs s_is_program) (defBody s_is_program) (defScope s_is_program) .none kV13 dc13 pm13 an13 cd13 ct13), sl13⟩) (c13 : PySem.W.codeIn K cd13 "is_program" = true) (k13 : PySem.W.keepIn K (.ref f13) = true)
    (a14 : PySem.W.nsIn K mainGlobals "_is_headed" = some (some (.ref f14))) (l14 : K.lookup f14 = some ⟨oc14, od14, .func (PySem.W.fnOf "_is_headed" "_is_headed" (defArgs s_is_headed) (defBody s_is_headed) (defScope s_is_headed) .none kV14 dc14 pm14 an14 cd14 ct14), sl14⟩) (c14 : PySem.W.codeIn K cd14 "_is_headed" = true) (k14 : PySem.W.keepIn K (.ref f14) = true)
    (a15 : PySem.W.nsIn K mainGlobals "names_asked" = some (some (.ref f15))) (l15 : K.lookup f15 = some ⟨oc15, od15, .func (PySem.W.fnOf "names_asked" "names_asked" (defArgs s_names_asked) (defBody s_names_asked) (defScope s_names_asked) .none kV15 dc15 pm15 an15 cd15 ct15), sl15⟩) (c15 : PySem.W.codeIn K cd15 "names_asked" = true) (k15 : PySem.W.keepIn K (.ref f15) = true)
    (a16 : PySem.W.findIn K (.ref C1) "__init__" = some (some (.ref f16))) (i16 : PySem.W.isFn K (.ref f16) = true) (l16 : K.lookup f16 = some ⟨oc16, od16, .func (PySem.W.fnOf "__init__" "Scope.__init__" (defArgs s_Scope_init) (defBody s_Scope_init) (defScope s_Scope_init) .none kV16 dc16 pm16 an16 cd16 ct16), sl16⟩) (c16 : PySem.W.codeIn K cd16 "Scope.__init__" = true) (k16 : PySem.W.keepIn K (.ref f16) = true)
    (a17 : PySem.W.findIn K (.ref C1) "take_pattern" = some (some (.ref f17))) (i17 : PySem.W.isFn K (.ref f17) = true) (gf17 : PySem.W.specialIn K (.ref f17) "__get__" = some (some (.builtin "function.__get__"))) (tk17 : PySem.W.takesIn K (.ref f17) = some false) (fi17 : PySem.W.fnIn K f17 = true) (l17 : K.lookup f17 = some ⟨oc17, od17, .func (PySem.W.fnOf "take_pattern" "Scope.take_pattern" (defArgs s_Scope_take_pattern) (defBody s_Scope_take_pattern) (defScope s_Scope_take_pattern) .none kV17 dc17 pm17 an17 cd17 ct17), sl17⟩) (c17 : PySem.W.codeIn K cd17 "Scope.take_pattern" = true) (k17 : PySem.W.keepIn K (.ref f17) = true)
    (a18 : PySem.W.findIn K (.ref C1) "_take_name" = some (some (.ref f18))) (i18 : PySem.W.isFn K (.ref f18) = true) (l18 : K.lookup f18 = some ⟨oc18, od18, .func (PySem.W.fnOf "_take_name" "Scope._take_name" (defArgs s_Scope_take_name) (defBody s_Scope_take_name) (defScope s_Scope_take_name) .none kV18 dc18 pm18 an18 cd18 ct18), sl18⟩) (c18 : PySem.W.codeIn K cd18 "Scope._take_name" = true) (k18 : PySem.W.keepIn K (.ref f18) = true)
    (a19 : PySem.W.findIn K (.ref C1) "has_body" = some (some (.ref f19))) (i19 : PySem.W.isFn K (.ref f19) = true) (gf19 : PySem.W.specialIn K (.ref f19) "__get__" = some (some (.builtin "function.__get__"))) (tk19 : PySem.W.takesIn K (.ref f19) = some false) (fi19 : PySem.W.fnIn K f19 = true) (l19 : K.lookup f19 = some ⟨oc19, od19, .func (PySem.W.fnOf "has_body" "Scope.has_body" (defArgs s_Scope_has_body) (defBody s_Scope_has_body) (defScope s_Scope_has_body) .none kV19 dc19 pm19 an19 cd19 ct19), sl19⟩) (c19 : PySem.W.codeIn K cd19 "Scope.has_body" = true) (k19 : PySem.W.keepIn K (.ref f19) = true)
    (a20 : PySem.W.findIn K (.ref C1) "_are_parts" = some (some (.ref f20))) (i20 : PySem.W.isFn K (.ref f20) = true) (l20 : K.lookup f20 = some ⟨oc20, od20, .func (PySem.W.fnOf "_are_parts" "Scope._are_parts" (defArgs s_Scope_are_parts) (defBody s_Scope_are_parts) (defScope s_Scope_are_parts) .none kV20 dc20 pm20 an20 cd20 ct20), sl20⟩) (c20 : PySem.W.codeIn K cd20 "Scope._are_parts" = true) (k20 : PySem.W.keepIn K (.ref f20) = true)
    (a21 : PySem.W.nsIn K mainGlobals "_is_clause" = some (some (.ref f21))) (l21 : K.lookup f21 = some ⟨oc21, od21, .func (PySem.W.fnOf "_is_clause" "_is_clause" (defArgs s_is_clause) (defBody s_is_clause) (defScope s_is_clause) .none kV21 dc21 pm21 an21 cd21 ct21), sl21⟩) (c21 : PySem.W.codeIn K cd21 "_is_clause" = true) (k21 : PySem.W.keepIn K (.ref f21) = true)
    (a22 : PySem.W.nsIn K mainGlobals "_is_falling" = some (some (.ref f22))) (l22 : K.lookup f22 = some ⟨oc22, od22, .func (PySem.W.fnOf "_is_falling" "_is_falling" (defArgs s_is_falling) (defBody s_is_falling) (defScope s_is_falling) .none kV22 dc22 pm22 an22 cd22 ct22), sl22⟩) (c22 : PySem.W.codeIn K cd22 "_is_falling" = true) (k22 : PySem.W.keepIn K (.ref f22) = true)
    (a23 : PySem.W.nsIn K mainGlobals "_are_calls_falling" = some (some (.ref f23))) (l23 : K.lookup f23 = some ⟨oc23, od23, .func (PySem.W.fnOf "_are_calls_falling" "_are_calls_falling" (defArgs s_are_calls_falling) (defBody s_are_calls_falling) (defScope s_are_calls_falling) .none kV23 dc23 pm23 an23 cd23 ct23), sl23⟩) (c23 : PySem.W.codeIn K cd23 "_are_calls_falling" = true) (k23 : PySem.W.keepIn K (.ref f23) = true)
    (a24 : PySem.W.nsIn K mainGlobals "_nodes_of" = some (some (.ref f24))) (l24 : K.lookup f24 = some ⟨oc24, od24, .func (PySem.W.fnOf "_nodes_of" "_nodes_of" (defArgs s_nodes_of) (defBody s_nodes_of) (defScope s_nodes_of) .none kV24 dc24 pm24 an24 cd24 ct24), sl24⟩) (c24 : PySem.W.codeIn K cd24 "_nodes_of" = true) (k24 : PySem.W.keepIn K (.ref f24) = true)
    (a25 : PySem.W.nsIn K mainGlobals "function_of" = some (some (.ref f25))) (l25 : K.lookup f25 = some ⟨oc25, od25, .func (PySem.W.fnOf "function_of" "function_of" (defArgs s_function_of) (defBody s_function_of) (defScope s_function_of) .none kV25 dc25 pm25 an25 cd25 ct25), sl25⟩) (c25 : PySem.W.codeIn K cd25 "function_of" = true) (k25 : PySem.W.keepIn K (.ref f25) = true)
    (a26 : PySem.W.nsIn K mainGlobals "calls_of" = some (some (.ref f26))) (l26 : K.lookup f26 = some ⟨oc26, od26, .func (PySem.W.fnOf "calls_of" "calls_of" (defArgs s_calls_of) (defBody s_calls_of) (defScope s_calls_of) .none kV26 dc26 pm26 an26 cd26 ct26), sl26⟩) (c26 : PySem.W.codeIn K cd26 "calls_of" = true) (k26 : PySem.W.keepIn K (.ref f26) = true)
    (a27 : PySem.W.nsIn K mainGlobals "group_of" = some (some (.ref f27))) (l27 : K.lookup f27 = some ⟨oc27, od27, .func (PySem.W.fnOf "group_of" "group_of" (defArgs s_group_of) (defBody s_group_of) (defScope s_group_of) .none kV27 dc27 pm27 an27 cd27 ct27), sl27⟩) (c27 : PySem.W.codeIn K cd27 "group_of" = true) (k27 : PySem.W.keepIn K (.ref f27) = true)
    (a28 : PySem.W.nsIn K mainGlobals "_reached_from" = some (some (.ref f28))) (l28 : K.lookup f28 = some ⟨oc28, od28, .func (PySem.W.fnOf "_reached_from" "_reached_from" (defArgs s_reached_from) (defBody s_reached_from) (defScope s_reached_from) .none kV28 dc28 pm28 an28 cd28 ct28), sl28⟩) (c28 : PySem.W.codeIn K cd28 "_reached_from" = true) (k28 : PySem.W.keepIn K (.ref f28) = true)
    (a29 : PySem.W.nsIn K mainGlobals "names_in" = some (some (.ref f29))) (l29 : K.lookup f29 = some ⟨oc29, od29, .func (PySem.W.fnOf "names_in" "names_in" (defArgs s_names_in) (defBody s_names_in) (defScope s_names_in) .none kV29 dc29 pm29 an29 cd29 ct29), sl29⟩) (c29 : PySem.W.codeIn K cd29 "names_in" = true) (k29 : PySem.W.keepIn K (.ref f29) = true)
    (a30 : PySem.W.nsIn K mainGlobals "_law_state" = some (some (.ref f30))) (l30 : K.lookup f30 = some ⟨oc30, od30, .func (PySem.W.fnOf "_law_state" "_law_state" (defArgs s_law_state) (defBody s_law_state) (defScope s_law_state) .none kV30 dc30 pm30 an30 cd30 ct30), sl30⟩) (c30 : PySem.W.codeIn K cd30 "_law_state" = true) (k30 : PySem.W.keepIn K (.ref f30) = true)
    (a31 : PySem.W.nsIn K mainGlobals "_law_draw" = some (some (.ref f31))) (l31 : K.lookup f31 = some ⟨oc31, od31, .func (PySem.W.fnOf "_law_draw" "_law_draw" (defArgs s_law_draw) (defBody s_law_draw) (defScope s_law_draw) .none kV31 dc31 pm31 an31 cd31 ct31), sl31⟩) (c31 : PySem.W.codeIn K cd31 "_law_draw" = true) (k31 : PySem.W.keepIn K (.ref f31) = true)
    (a32 : PySem.W.nsIn K mainGlobals "_law_pick" = some (some (.ref f32))) (l32 : K.lookup f32 = some ⟨oc32, od32, .func (PySem.W.fnOf "_law_pick" "_law_pick" (defArgs s_law_pick) (defBody s_law_pick) (defScope s_law_pick) .none kV32 dc32 pm32 an32 cd32 ct32), sl32⟩) (c32 : PySem.W.codeIn K cd32 "_law_pick" = true) (k32 : PySem.W.keepIn K (.ref f32) = true)
    (a33 : PySem.W.nsIn K mainGlobals "_law_graph_table" = some (some (.ref f33))) (l33 : K.lookup f33 = some ⟨oc33, od33, .func (PySem.W.fnOf "_law_graph_table" "_law_graph_table" (defArgs s_law_graph_table) (defBody s_law_graph_table) (defScope s_law_graph_table) .none kV33 dc33 pm33 an33 cd33 ct33), sl33⟩) (c33 : PySem.W.codeIn K cd33 "_law_graph_table" = true) (k33 : PySem.W.keepIn K (.ref f33) = true)
    (a34 : PySem.W.nsIn K mainGlobals "_law_graph_pattern" = some (some (.ref f34))) (l34 : K.lookup f34 = some ⟨oc34, od34, .func (PySem.W.fnOf "_law_graph_pattern" "_law_graph_pattern" (defArgs s_law_graph_pattern) (defBody s_law_graph_pattern) (defScope s_law_graph_pattern) .none kV34 dc34 pm34 an34 cd34 ct34), sl34⟩) (c34 : PySem.W.codeIn K cd34 "_law_graph_pattern" = true) (k34 : PySem.W.keepIn K (.ref f34) = true)
    (a35 : PySem.W.nsIn K mainGlobals "_law_graph_body" = some (some (.ref f35))) (l35 : K.lookup f35 = some ⟨oc35, od35, .func (PySem.W.fnOf "_law_graph_body" "_law_graph_body" (defArgs s_law_graph_body) (defBody s_law_graph_body) (defScope s_law_graph_body) .none kV35 dc35 pm35 an35 cd35 ct35), sl35⟩) (c35 : PySem.W.codeIn K cd35 "_law_graph_body" = true) (k35 : PySem.W.keepIn K (.ref f35) = true)
    (a36 : PySem.W.nsIn K mainGlobals "_law_graph_program" = some (some (.ref f36))) (l36 : K.lookup f36 = some ⟨oc36, od36, .func (PySem.W.fnOf "_law_graph_program" "_law_graph_program" (defArgs s_law_graph_program) (defBody s_law_graph_program) (defScope s_law_graph_program) .none kV36 dc36 pm36 an36 cd36 ct36), sl36⟩) (c36 : PySem.W.codeIn K cd36 "_law_graph_program" = true) (k36 : PySem.W.keepIn K (.ref f36) = true)
    (a37 : PySem.W.nsIn K mainGlobals "_law_names" = some (some (.ref f37))) (l37 : K.lookup f37 = some ⟨oc37, od37, .func (PySem.W.fnOf "_law_names" "_law_names" (defArgs s_law_names) (defBody s_law_names) (defScope s_law_names) .none kV37 dc37 pm37 an37 cd37 ct37), sl37⟩) (c37 : PySem.W.codeIn K cd37 "_law_names" = true) (k37 : PySem.W.keepIn K (.ref f37) = true)
    (a38 : PySem.W.nsIn K mainGlobals "_law_calls" = some (some (.ref f38))) (l38 : K.lookup f38 = some ⟨oc38, od38, .func (PySem.W.fnOf "_law_calls" "_law_calls" (defArgs s_law_calls) (defBody s_law_calls) (defScope s_law_calls) .none kV38 dc38 pm38 an38 cd38 ct38), sl38⟩) (c38 : PySem.W.codeIn K cd38 "_law_calls" = true) (k38 : PySem.W.keepIn K (.ref f38) = true)
    (a39 : PySem.W.nsIn K mainGlobals "_law_next" = some (some (.ref f39))) (l39 : K.lookup f39 = some ⟨oc39, od39, .func (PySem.W.fnOf "_law_next" "_law_next" (defArgs s_law_next) (defBody s_law_next) (defScope s_law_next) .none kV39 dc39 pm39 an39 cd39 ct39), sl39⟩) (c39 : PySem.W.codeIn K cd39 "_law_next" = true) (k39 : PySem.W.keepIn K (.ref f39) = true)
    (a40 : PySem.W.nsIn K mainGlobals "_law_reached" = some (some (.ref f40))) (l40 : K.lookup f40 = some ⟨oc40, od40, .func (PySem.W.fnOf "_law_reached" "_law_reached" (defArgs s_law_reached) (defBody s_law_reached) (defScope s_law_reached) .none kV40 dc40 pm40 an40 cd40 ct40), sl40⟩) (c40 : PySem.W.codeIn K cd40 "_law_reached" = true) (k40 : PySem.W.keepIn K (.ref f40) = true)
    (a41 : PySem.W.nsIn K mainGlobals "_law_group" = some (some (.ref f41))) (l41 : K.lookup f41 = some ⟨oc41, od41, .func (PySem.W.fnOf "_law_group" "_law_group" (defArgs s_law_group) (defBody s_law_group) (defScope s_law_group) .none kV41 dc41 pm41 an41 cd41 ct41), sl41⟩) (c41 : PySem.W.codeIn K cd41 "_law_group" = true) (k41 : PySem.W.keepIn K (.ref f41) = true)
    (a42 : PySem.W.nsIn K mainGlobals "_law_below" = some (some (.ref f42))) (l42 : K.lookup f42 = some ⟨oc42, od42, .func (PySem.W.fnOf "_law_below" "_law_below" (defArgs s_law_below) (defBody s_law_below) (defScope s_law_below) .none kV42 dc42 pm42 an42 cd42 ct42), sl42⟩) (c42 : PySem.W.codeIn K cd42 "_law_below" = true) (k42 : PySem.W.keepIn K (.ref f42) = true)
    (a43 : PySem.W.nsIn K mainGlobals "_law_falls" = some (some (.ref f43))) (l43 : K.lookup f43 = some ⟨oc43, od43, .func (PySem.W.fnOf "_law_falls" "_law_falls" (defArgs s_law_falls) (defBody s_law_falls) (defScope s_law_falls) .none kV43 dc43 pm43 an43 cd43 ct43), sl43⟩) (c43 : PySem.W.codeIn K cd43 "_law_falls" = true) (k43 : PySem.W.keepIn K (.ref f43) = true)
    (a44 : PySem.W.nsIn K mainGlobals "_law_ring" = some (some (.ref f44))) (l44 : K.lookup f44 = some ⟨oc44, od44, .func (PySem.W.fnOf "_law_ring" "_law_ring" (defArgs s_law_ring) (defBody s_law_ring) (defScope s_law_ring) .none kV44 dc44 pm44 an44 cd44 ct44), sl44⟩) (c44 : PySem.W.codeIn K cd44 "_law_ring" = true) (k44 : PySem.W.keepIn K (.ref f44) = true)
    (a45 : PySem.W.nsIn K mainGlobals "law" = some (some (.ref f45))) (l45 : K.lookup f45 = some ⟨oc45, od45, .func (PySem.W.fnOf "law" "law" (defArgs s_law) (defBody s_law) (defScope s_law) .none kV45 dc45 pm45 an45 cd45 ct45), sl45⟩) (c45 : PySem.W.codeIn K cd45 "law" = true) (k45 : PySem.W.keepIn K (.ref f45) = true)
    (z0 : PySem.W.nsIn K mainGlobals "reversed" = some none)
    (z1 : PySem.W.nsIn K mainGlobals "dict" = some none)
    (z2 : PySem.W.nsIn K mainGlobals "isinstance" = some none)
    (z3 : PySem.W.nsIn K mainGlobals "str" = some none)
    (z4 : PySem.W.nsIn K mainGlobals "tuple" = some none)
    (z5 : PySem.W.nsIn K mainGlobals "len" = some none)
    (z6 : PySem.W.nsIn K mainGlobals "int" = some none)
    (z7 : PySem.W.nsIn K mainGlobals "bool" = some none)
    (z8 : PySem.W.nsIn K mainGlobals "list" = some none)
    (z9 : PySem.W.nsIn K mainGlobals "set" = some none)
    (z10 : PySem.W.nsIn K mainGlobals "zip" = some none)
    (z11 : PySem.W.nsIn K mainGlobals "sorted" = some none)
    (z12 : PySem.W.nsIn K mainGlobals "abs" = some none)
    (z13 : PySem.W.nsIn K mainGlobals "range" = some none)
    : ∃ fd : FuncData, (∀ (s : Shared) (v : Value), BindsTo s fd ⟨[v], []⟩ [("script", v)]) ∧ ∀ base : Heap, K.In base → base.Ns mainGlobals mg → FnOk l.prog w K mg base CX0 17 fa fd ["script"] (spLaw K) := by
  have e := hfa.symm.trans (PySem.W.mg_of X G a45)
  cases e
  let T : Txt K mg := {
    c_Kept := C0, cl_Kept := ⟨pg0, hd0, po0, sa0⟩, mg_Kept := PySem.W.mg_of X G aC0,
    no_Kept_rows := nx0_0,
    mk_Kept := ⟨mk0, a0, i0, kc0⟩,
    c_Scope := C1, cl_Scope := ⟨pg1, hd1, po1, sa1⟩, mg_Scope := PySem.W.mg_of X G aC1,
    no_Scope_table := nx1_0,
    no_Scope_program := nx1_1,
    no_Scope_families := nx1_2,
    no_Scope_left := nx1_3,
    mk_Scope := ⟨mk1, a16, i16, kc1⟩,
    t_MOST_KEPT := ti0, g_MOST_KEPT := PySem.W.mg_of X G gi0,
    t_MOST_NAME := ti1, g_MOST_NAME := PySem.W.mg_of X G gi1,
    t_MOST_PARTS := ti2, g_MOST_PARTS := PySem.W.mg_of X G gi2,
    t_MOST_NAMES := ti3, g_MOST_NAMES := PySem.W.mg_of X G gi3,
    t_MOST_DEEP := ti4, g_MOST_DEEP := PySem.W.mg_of X G gi4,
    t_MOST_FUNCTIONS := ti5, g_MOST_FUNCTIONS := PySem.W.mg_of X G gi5,
    t_MOST_CLAUSES := ti6, g_MOST_CLAUSES := PySem.W.mg_of X G gi6,
    t_MOST_PATTERN := ti7, g_MOST_PATTERN := PySem.W.mg_of X G gi7,
    t_MOST_BODY := ti8, g_MOST_BODY := PySem.W.mg_of X G gi8,
    a_Kept_init := f0, d_Kept_init := _, F_Kept_init := fun_mk (st := s_Kept_init) l0 c0 k0, b_Kept_init := (fun_mk (st := s_Kept_init) l0 c0 k0).binds (ps := ["self"]) (fun _ _ _ _ _ _ us hl => match us, hl with | [_], _ => rfl), me_Kept_init := ⟨a0, i0, k0⟩,
    a_Kept_pair_of := f1, d_Kept_pair_of := _, F_Kept_pair_of := fun_mk (st := s_Kept_pair_of) l1 c1 k1, b_Kept_pair_of := (fun_mk (st := s_Kept_pair_of) l1 c1 k1).binds (ps := ["self", "tree"]) (fun _ _ _ _ _ _ us hl => match us, hl with | [_, _], _ => rfl), me_Kept_pair_of := ⟨a1, i1, k1⟩,
    a_Kept_keep := f2, d_Kept_keep := _, F_Kept_keep := fun_mk (st := s_Kept_keep) l2 c2 k2, b_Kept_keep := (fun_mk (st := s_Kept_keep) l2 c2 k2).binds (ps := ["self", "tree", "result"]) (fun _ _ _ _ _ _ us hl => match us, hl with | [_, _, _], _ => rfl), me_Kept_keep := ⟨a2, i2, k2⟩,
    a_is_term := f3, d_is_term := _, F_is_term := fun_mk (st := s_is_term) l3 c3 k3, b_is_term := (fun_mk (st := s_is_term) l3 c3 k3).binds (ps := ["makers", "value"]) (fun _ _ _ _ _ _ us hl => match us, hl with | [_, _], _ => rfl), m_is_term := PySem.W.mg_of X G a3,
    a_has_form := f4, d_has_form := _, F_has_form := fun_mk (st := s_has_form) l4 c4 k4, b_has_form := (fun_mk (st := s_has_form) l4 c4 k4).binds (ps := ["parts_by_word", "value", "may_have_names", "kept"]) (fun _ _ _ _ _ _ us hl => match us, hl with | [_, _, _, _], _ => rfl), m_has_form := PySem.W.mg_of X G a4,
    a_names_of := f5, d_names_of := _, F_names_of := fun_mk (st := s_names_of) l5 c5 k5, b_names_of := (fun_mk (st := s_names_of) l5 c5 k5).binds (ps := ["term"]) (fun _ _ _ _ _ _ us hl => match us, hl with | [_], _ => rfl), m_names_of := PySem.W.mg_of X G a5,
    a_is_word := f6, d_is_word := _, F_is_word := fun_mk (st := s_is_word) l6 c6 k6, b_is_word := (fun_mk (st := s_is_word) l6 c6 k6).binds (ps := ["value"]) (fun _ _ _ _ _ _ us hl => match us, hl with | [_], _ => rfl), m_is_word := PySem.W.mg_of X G a6,
    a_is_row := f7, d_is_row := _, F_is_row := fun_mk (st := s_is_row) l7 c7 k7, b_is_row := (fun_mk (st := s_is_row) l7 c7 k7).binds (ps := ["value", "many"]) (fun _ _ _ _ _ _ us hl => match us, hl with | [_, _], _ => rfl), m_is_row := PySem.W.mg_of X G a7,
    a_is_integer := f8, d_is_integer := _, F_is_integer := fun_mk (st := s_is_integer) l8 c8 k8, b_is_integer := (fun_mk (st := s_is_integer) l8 c8 k8).binds (ps := ["value"]) (fun _ _ _ _ _ _ us hl => match us, hl with | [_], _ => rfl), m_is_integer := PySem.W.mg_of X G a8,
    a_is_kind := f9, d_is_kind := _, F_is_kind := fun_mk (st := s_is_kind) l9 c9 k9, b_is_kind := (fun_mk (st := s_is_kind) l9 c9 k9).binds (ps := ["table", "value"]) (fun _ _ _ _ _ _ us hl => match us, hl with | [_, _], _ => rfl), m_is_kind := PySem.W.mg_of X G a9,
    a_is_deeper := f10, d_is_deeper := _, F_is_deeper := fun_mk (st := s_is_deeper) l10 c10 k10, b_is_deeper := (fun_mk (st := s_is_deeper) l10 c10 k10).binds (ps := ["term", "most"]) (fun _ _ _ _ _ _ us hl => match us, hl with | [_, _], _ => rfl), m_is_deeper := PySem.W.mg_of X G a10,
    a_constructor_of := f11, d_constructor_of := _, F_constructor_of := fun_mk (st := s_constructor_of) l11 c11 k11, b_constructor_of := (fun_mk (st := s_constructor_of) l11 c11 k11).binds (ps := ["table", "word"]) (fun _ _ _ _ _ _ us hl => match us, hl with | [_, _], _ => rfl), m_constructor_of := PySem.W.mg_of X G a11,
    a_words_of := f12, d_words_of := _, F_words_of := fun_mk (st := s_words_of) l12 c12 k12, b_words_of := (fun_mk (st := s_words_of) l12 c12 k12).binds (ps := ["table"]) (fun _ _ _ _ _ _ us hl => match us, hl with | [_], _ => rfl), m_words_of := PySem.W.mg_of X G a12,
    a_is_program := f13, d_is_program := _, F_is_program := fun_mk (st := s_is_program) l13 c13 k13, b_is_program := (fun_mk (st := s_is_program) l13 c13 k13).binds (ps := ["table", "value"]) (fun _ _ _ _ _ _ us hl => match us, hl with | [_, _], _ => rfl), m_is_program := PySem.W.mg_of X G a13,
    a_is_headed := f14, d_is_headed := _, F_is_headed := fun_mk (st := s_is_headed) l14 c14 k14, b_is_headed := (fun_mk (st := s_is_headed) l14 c14 k14).binds (ps := ["table", "value"]) (fun _ _ _ _ _ _ us hl => match us, hl with | [_, _], _ => rfl), m_is_headed := PySem.W.mg_of X G a14,
    a_names_asked := f15, d_names_asked := _, F_names_asked := fun_mk (st := s_names_asked) l15 c15 k15, b_names_asked := (fun_mk (st := s_names_asked) l15 c15 k15).binds (ps := ["function"]) (fun _ _ _ _ _ _ us hl => match us, hl with | [_], _ => rfl), m_names_asked := PySem.W.mg_of X G a15,
    a_Scope_init := f16, d_Scope_init := _, F_Scope_init := fun_mk (st := s_Scope_init) l16 c16 k16, b_Scope_init := (fun_mk (st := s_Scope_init) l16 c16 k16).binds (ps := ["self", "table", "program"]) (fun _ _ _ _ _ _ us hl => match us, hl with | [_, _, _], _ => rfl), me_Scope_init := ⟨a16, i16, k16⟩,
    a_Scope_take_pattern := f17, d_Scope_take_pattern := _, F_Scope_take_pattern := fun_mk (st := s_Scope_take_pattern) l17 c17 k17, b_Scope_take_pattern := (fun_mk (st := s_Scope_take_pattern) l17 c17 k17).binds (ps := ["self", "pattern", "family"]) (fun _ _ _ _ _ _ us hl => match us, hl with | [_, _, _], _ => rfl), me_Scope_take_pattern := ⟨a17, i17, k17⟩, bm_Scope_take_pattern := ⟨⟨a17, i17, k17⟩, gf17, tk17, by decide +kernel, fi17⟩,
    a_Scope_take_name := f18, d_Scope_take_name := _, F_Scope_take_name := fun_mk (st := s_Scope_take_name) l18 c18 k18, b_Scope_take_name := (fun_mk (st := s_Scope_take_name) l18 c18 k18).binds (ps := ["self", "name", "family"]) (fun _ _ _ _ _ _ us hl => match us, hl with | [_, _, _], _ => rfl), me_Scope_take_name := ⟨a18, i18, k18⟩,
    a_Scope_has_body := f19, d_Scope_has_body := _, F_Scope_has_body := fun_mk (st := s_Scope_has_body) l19 c19 k19, b_Scope_has_body := (fun_mk (st := s_Scope_has_body) l19 c19 k19).binds (ps := ["self", "body", "family"]) (fun _ _ _ _ _ _ us hl => match us, hl with | [_, _, _], _ => rfl), me_Scope_has_body := ⟨a19, i19, k19⟩, bm_Scope_has_body := ⟨⟨a19, i19, k19⟩, gf19, tk19, by decide +kernel, fi19⟩,
    a_Scope_are_parts := f20, d_Scope_are_parts := _, F_Scope_are_parts := fun_mk (st := s_Scope_are_parts) l20 c20 k20, b_Scope_are_parts := (fun_mk (st := s_Scope_are_parts) l20 c20 k20).binds (ps := ["self", "tree", "kinds", "test"]) (fun _ _ _ _ _ _ us hl => match us, hl with | [_, _, _, _], _ => rfl), me_Scope_are_parts := ⟨a20, i20, k20⟩,
    a_is_clause := f21, d_is_clause := _, F_is_clause := fun_mk (st := s_is_clause) l21 c21 k21, b_is_clause := (fun_mk (st := s_is_clause) l21 c21 k21).binds (ps := ["table", "program", "function", "value"]) (fun _ _ _ _ _ _ us hl => match us, hl with | [_, _, _, _], _ => rfl), m_is_clause := PySem.W.mg_of X G a21,
    a_is_falling := f22, d_is_falling := _, F_is_falling := fun_mk (st := s_is_falling) l22 c22 k22, b_is_falling := (fun_mk (st := s_is_falling) l22 c22 k22).binds (ps := ["program"]) (fun _ _ _ _ _ _ us hl => match us, hl with | [_], _ => rfl), m_is_falling := PySem.W.mg_of X G a22,
    a_are_calls_falling := f23, d_are_calls_falling := _, F_are_calls_falling := fun_mk (st := s_are_calls_falling) l23 c23 k23, b_are_calls_falling := (fun_mk (st := s_are_calls_falling) l23 c23 k23).binds (ps := ["program", "group", "pattern", "body"]) (fun _ _ _ _ _ _ us hl => match us, hl with | [_, _, _, _], _ => rfl), m_are_calls_falling := PySem.W.mg_of X G a23,
    a_nodes_of := f24, d_nodes_of := _, F_nodes_of := fun_mk (st := s_nodes_of) l24 c24 k24, b_nodes_of := (fun_mk (st := s_nodes_of) l24 c24 k24).binds (ps := ["body"]) (fun _ _ _ _ _ _ us hl => match us, hl with | [_], _ => rfl), m_nodes_of := PySem.W.mg_of X G a24,
    a_function_of := f25, d_function_of := _, F_function_of := fun_mk (st := s_function_of) l25 c25 k25, b_function_of := (fun_mk (st := s_function_of) l25 c25 k25).binds (ps := ["program", "word"]) (fun _ _ _ _ _ _ us hl => match us, hl with | [_, _], _ => rfl), m_function_of := PySem.W.mg_of X G a25,
    a_calls_of := f26, d_calls_of := _, F_calls_of := fun_mk (st := s_calls_of) l26 c26 k26, b_calls_of := (fun_mk (st := s_calls_of) l26 c26 k26).binds (ps := ["program", "word"]) (fun _ _ _ _ _ _ us hl => match us, hl with | [_, _], _ => rfl), m_calls_of := PySem.W.mg_of X G a26,
    a_group_of := f27, d_group_of := _, F_group_of := fun_mk (st := s_group_of) l27 c27 k27, b_group_of := (fun_mk (st := s_group_of) l27 c27 k27).binds (ps := ["program", "word"]) (fun _ _ _ _ _ _ us hl => match us, hl with | [_, _], _ => rfl), m_group_of := PySem.W.mg_of X G a27,
    a_reached_from := f28, d_reached_from := _, F_reached_from := fun_mk (st := s_reached_from) l28 c28 k28, b_reached_from := (fun_mk (st := s_reached_from) l28 c28 k28).binds (ps := ["program", "word"]) (fun _ _ _ _ _ _ us hl => match us, hl with | [_, _], _ => rfl), m_reached_from := PySem.W.mg_of X G a28,
    a_names_in := f29, d_names_in := _, F_names_in := fun_mk (st := s_names_in) l29 c29 k29, b_names_in := (fun_mk (st := s_names_in) l29 c29 k29).binds (ps := ["pattern"]) (fun _ _ _ _ _ _ us hl => match us, hl with | [_], _ => rfl), m_names_in := PySem.W.mg_of X G a29,
    a_law_state := f30, d_law_state := _, F_law_state := fun_mk (st := s_law_state) l30 c30 k30, b_law_state := (fun_mk (st := s_law_state) l30 c30 k30).binds (ps := ["script"]) (fun _ _ _ _ _ _ us hl => match us, hl with | [_], _ => rfl), m_law_state := PySem.W.mg_of X G a30,
    a_law_draw := f31, d_law_draw := _, F_law_draw := fun_mk (st := s_law_draw) l31 c31 k31, b_law_draw := (fun_mk (st := s_law_draw) l31 c31 k31).binds (ps := ["state", "many"]) (fun _ _ _ _ _ _ us hl => match us, hl with | [_, _], _ => rfl), m_law_draw := PySem.W.mg_of X G a31,
    a_law_pick := f32, d_law_pick := _, F_law_pick := fun_mk (st := s_law_pick) l32 c32 k32, b_law_pick := (fun_mk (st := s_law_pick) l32 c32 k32).binds (ps := ["state", "row"]) (fun _ _ _ _ _ _ us hl => match us, hl with | [_, _], _ => rfl), m_law_pick := PySem.W.mg_of X G a32,
    a_law_graph_table := f33, d_law_graph_table := _, F_law_graph_table := fun_mk (st := s_law_graph_table) l33 c33 k33, b_law_graph_table := (fun_mk (st := s_law_graph_table) l33 c33 k33).binds (ps := []) (fun _ _ _ _ _ _ us hl => match us, hl with | [], _ => rfl), m_law_graph_table := PySem.W.mg_of X G a33,
    a_law_graph_pattern := f34, d_law_graph_pattern := _, F_law_graph_pattern := fun_mk (st := s_law_graph_pattern) l34 c34 k34, b_law_graph_pattern := (fun_mk (st := s_law_graph_pattern) l34 c34 k34).binds (ps := ["state", "mark"]) (fun _ _ _ _ _ _ us hl => match us, hl with | [_, _], _ => rfl), m_law_graph_pattern := PySem.W.mg_of X G a34,
    a_law_graph_body := f35, d_law_graph_body := _, F_law_graph_body := fun_mk (st := s_law_graph_body) l35 c35 k35, b_law_graph_body := (fun_mk (st := s_law_graph_body) l35 c35 k35).binds (ps := ["state", "places", "names", "deep", "most"]) (fun _ _ _ _ _ _ us hl => match us, hl with | [_, _, _, _, _], _ => rfl), m_law_graph_body := PySem.W.mg_of X G a35,
    a_law_graph_program := f36, d_law_graph_program := _, F_law_graph_program := fun_mk (st := s_law_graph_program) l36 c36 k36, b_law_graph_program := (fun_mk (st := s_law_graph_program) l36 c36 k36).binds (ps := ["state"]) (fun _ _ _ _ _ _ us hl => match us, hl with | [_], _ => rfl), m_law_graph_program := PySem.W.mg_of X G a36,
    a_law_names := f37, d_law_names := _, F_law_names := fun_mk (st := s_law_names) l37 c37 k37, b_law_names := (fun_mk (st := s_law_names) l37 c37 k37).binds (ps := ["term"]) (fun _ _ _ _ _ _ us hl => match us, hl with | [_], _ => rfl), m_law_names := PySem.W.mg_of X G a37,
    a_law_calls := f38, d_law_calls := _, F_law_calls := fun_mk (st := s_law_calls) l38 c38 k38, b_law_calls := (fun_mk (st := s_law_calls) l38 c38 k38).binds (ps := ["program", "body"]) (fun _ _ _ _ _ _ us hl => match us, hl with | [_, _], _ => rfl), m_law_calls := PySem.W.mg_of X G a38,
    a_law_next := f39, d_law_next := _, F_law_next := fun_mk (st := s_law_next) l39 c39 k39, b_law_next := (fun_mk (st := s_law_next) l39 c39 k39).binds (ps := ["program", "word"]) (fun _ _ _ _ _ _ us hl => match us, hl with | [_, _], _ => rfl), m_law_next := PySem.W.mg_of X G a39,
    a_law_reached := f40, d_law_reached := _, F_law_reached := fun_mk (st := s_law_reached) l40 c40 k40, b_law_reached := (fun_mk (st := s_law_reached) l40 c40 k40).binds (ps := ["program", "word"]) (fun _ _ _ _ _ _ us hl => match us, hl with | [_, _], _ => rfl), m_law_reached := PySem.W.mg_of X G a40,
    a_law_group := f41, d_law_group := _, F_law_group := fun_mk (st := s_law_group) l41 c41 k41, b_law_group := (fun_mk (st := s_law_group) l41 c41 k41).binds (ps := ["program", "word"]) (fun _ _ _ _ _ _ us hl => match us, hl with | [_, _], _ => rfl), m_law_group := PySem.W.mg_of X G a41,
    a_law_below := f42, d_law_below := _, F_law_below := fun_mk (st := s_law_below) l42 c42 k42, b_law_below := (fun_mk (st := s_law_below) l42 c42 k42).binds (ps := ["pattern"]) (fun _ _ _ _ _ _ us hl => match us, hl with | [_], _ => rfl), m_law_below := PySem.W.mg_of X G a42,
    a_law_falls := f43, d_law_falls := _, F_law_falls := fun_mk (st := s_law_falls) l43 c43 k43, b_law_falls := (fun_mk (st := s_law_falls) l43 c43 k43).binds (ps := ["program"]) (fun _ _ _ _ _ _ us hl => match us, hl with | [_], _ => rfl), m_law_falls := PySem.W.mg_of X G a43,
    a_law_ring := f44, d_law_ring := _, F_law_ring := fun_mk (st := s_law_ring) l44 c44 k44, b_law_ring := (fun_mk (st := s_law_ring) l44 c44 k44).binds (ps := ["state"]) (fun _ _ _ _ _ _ us hl => match us, hl with | [_], _ => rfl), m_law_ring := PySem.W.mg_of X G a44,
    a_law := fa, d_law := _, F_law := fun_mk (st := s_law) l45 c45 k45, b_law := (fun_mk (st := s_law) l45 c45 k45).binds (ps := ["script"]) (fun _ _ _ _ _ _ us hl => match us, hl with | [_], _ => rfl), m_law := PySem.W.mg_of X G a45,
    z_reversed := PySem.W.mg_none_of X G z0,
    z_dict := PySem.W.mg_none_of X G z1,
    z_isinstance := PySem.W.mg_none_of X G z2,
    z_str := PySem.W.mg_none_of X G z3,
    z_tuple := PySem.W.mg_none_of X G z4,
    z_len := PySem.W.mg_none_of X G z5,
    z_int := PySem.W.mg_none_of X G z6,
    z_bool := PySem.W.mg_none_of X G z7,
    z_list := PySem.W.mg_none_of X G z8,
    z_set := PySem.W.mg_none_of X G z9,
    z_zip := PySem.W.mg_none_of X G z10,
    z_sorted := PySem.W.mg_none_of X G z11,
    z_abs := PySem.W.mg_none_of X G z12,
    z_range := PySem.W.mg_none_of X G z13 }
  refine ⟨PySem.W.fnOf "law" "law" (defArgs s_law) (defBody s_law) (defScope s_law) .none kV45 dc45 pm45 an45 cd45 ct45, fun _ _ => .of_eq rfl, fun base _ _ => ?_⟩
  have d1 := ok_law_draw (P := l.prog) (w := w) (base := base) T
  have fo := ok_function_of (P := l.prog) (w := w) (base := base) T
  have nn := ok_nodes_of (P := l.prog) (w := w) (base := base) T
  have lcN := ok_law_calls (P := l.prog) (w := w) (base := base) T
  have gr := ok_group_of T (ok_reached_from T (ok_calls_of T fo (nodes_old T nn)))
  have nm1 := ok_names_of (n := 1) (P := l.prog) (w := w) (base := base) T
  have wd1 := ok_is_word (P := l.prog) (w := w) (base := base) T
  have row := ok_is_row (P := l.prog) (w := w) (base := base) T
  have term := ok_is_term T (ok_has_form (P := l.prog) (w := w) (base := base) T (no_left fun _ _ _ _ h => h) (no_left fun _ _ _ _ h => h) (no_left fun _ _ _ _ h => h)) (ok_Kept_init T)
  have kind := ok_is_kind T row term (ok_is_deeper T (no_left fun _ _ _ _ h => h)) nm1 wd1
  have hd1 := ok_is_headed T row wd1 kind (ok_is_integer T) (ok_names_asked T nm1) nm1
  have cl1 := ok_is_clause T row (ok_Scope_init T) (all_take T 3) (all_body2 T 5)
  have fall := ok_is_falling T gr (ok_are_calls_falling T nn fo (ok_names_in T (ok_names_of T)))
  have prg := ok_is_program T row hd1 (ok_words_of T) cl1 fall
  have graph := ok_law_graph_program T d1 (ok_law_graph_pattern T d1) (all_lnames T 12) (FnOk.mono (all_body T 4) (by decide))
  have lg := ok_law_group T (ok_law_reached T (ok_law_next T (lcalls_old T lcN)))
  exact ok_law T (ok_law_state T) (ok_law_graph_table T) (ok_law_ring T d1) prg graph (ok_law_falls T lg lcN (ok_law_below T (all_lnames T 12)))
theorem law_walk {l : PySem.W.OpenLaw} {q : Program} {loose : List Str} {XP : (Str → Option Value) → Heap → Prop} {YP : World → Heap → Prop} {r : DefRec} {K : Params → PySem.W.Frag}
    (h63 : l.most = some 63) (hno : r.params.defaults = []) (hK : ∀ (w : World) (h : Heap), YP w h → (K w.params).In h)
    (ok : ∀ (w : World) (mg : Str → Option Value) (fa : Addr) (h : Heap), (K w.params).In h → h.Ns mainGlobals mg → mg r.name = some (.ref fa) →
      ∃ fd : FuncData, (∀ (s : Shared) (u : Value), BindsTo s fd ⟨[u], []⟩ [("script", u)]) ∧
        ∀ base : Heap, (K w.params).In base → base.Ns mainGlobals mg → FnOk l.prog w (K w.params) mg base CX0 17 fa fd ["script"] (spLaw (K w.params))) :
    PySem.W.WalkO q loose XP YP l.row.toRowW r [] (fun f vs => PySem.call f vs) :=
  L2.walk_of (n := 63) (k := 17) (x := "script") (CX := fun _ => CX0) (sp := fun w => spLaw (K w.params)) h63 (by decide) hno ⟨rfl, by decide, by decide⟩ hK ok
    (fun _ _ a ns few _ seq => ⟨a, ns, rfl, seq, few, fun _ => rfl⟩) fun _ _ _ _ _ z => z
end Kx
open PySem PySem.W PyProof.Rows
set_option maxRecDepth 100000 in
set_option maxHeartbeats 0 in
theorem PySem.Challenge.cw_exactkinds_k29_falling_calls_holds : PySem.Challenge.rw_exactkinds_k29_falling_calls.Holds := by
  w_on; o_law; k_head; (case hw => w_witness2)
  k_fill
  refine Kx.law_walk (l := PySem.Challenge.rw_exactkinds_k29_falling_calls) rfl rfl (fun _ _ Y => PySem.W.kIn_of Y) ?walked
  case walked =>
    intro w mg fa h inK names hmg
    refine' Kx.all_mk inK names hmg ?aC0 ?pg0 ?hd0 ?po0 ?sa0 ?mk0 ?kc0 ?nx0_0 ?aC1 ?pg1 ?hd1 ?po1 ?sa1 ?mk1 ?kc1 ?nx1_0 ?nx1_1 ?nx1_2 ?nx1_3 ?gi0 ?gi1 ?gi2 ?gi3 ?gi4 ?gi5 ?gi6 ?gi7 ?gi8 ?a0 ?i0 ?l0 ?c0 ?k0 ?a1 ?i1 ?l1 ?c1 ?k1 ?a2 ?i2 ?l2 ?c2 ?k2 ?a3 ?l3 ?c3 ?k3 ?a4 ?l4 ?c4 ?k4 ?a5 ?l5 ?c5 ?k5 ?a6 ?l6 ?c6 ?k6 ?a7 ?l7 ?c7 ?k7 ?a8 ?l8 ?c8 ?k8 ?a9 ?l9 ?c9 ?k9 ?a10 ?l10 ?c10 ?k10 ?a11 ?l11 ?c11 ?k11 ?a12 ?l12 ?c12 ?k12 ?a13 ?l13 ?c13 ?k13 ?a14 ?l14 ?c14 ?k14 ?a15 ?l15 ?c15 ?k15 ?a16 ?i16 ?l16 ?c16 ?k16 ?a17 ?i17 ?gf17 ?tk17 ?fi17 ?l17 ?c17 ?k17 ?a18 ?i18 ?l18 ?c18 ?k18 ?a19 ?i19 ?gf19 ?tk19 ?fi19 ?l19 ?c19 ?k19 ?a20 ?i20 ?l20 ?c20 ?k20 ?a21 ?l21 ?c21 ?k21 ?a22 ?l22 ?c22 ?k22 ?a23 ?l23 ?c23 ?k23 ?a24 ?l24 ?c24 ?k24 ?a25 ?l25 ?c25 ?k25 ?a26 ?l26 ?c26 ?k26 ?a27 ?l27 ?c27 ?k27 ?a28 ?l28 ?c28 ?k28 ?a29 ?l29 ?c29 ?k29 ?a30 ?l30 ?c30 ?k30 ?a31 ?l31 ?c31 ?k31 ?a32 ?l32 ?c32 ?k32 ?a33 ?l33 ?c33 ?k33 ?a34 ?l34 ?c34 ?k34 ?a35 ?l35 ?c35 ?k35 ?a36 ?l36 ?c36 ?k36 ?a37 ?l37 ?c37 ?k37 ?a38 ?l38 ?c38 ?k38 ?a39 ?l39 ?c39 ?k39 ?a40 ?l40 ?c40 ?k40 ?a41 ?l41 ?c41 ?k41 ?a42 ?l42 ?c42 ?k42 ?a43 ?l43 ?c43 ?k43 ?a44 ?l44 ?c44 ?k44 ?a45 ?l45 ?c45 ?k45 ?z0 ?z1 ?z2 ?z3 ?z4 ?z5 ?z6 ?z7 ?z8 ?z9 ?z10 ?z11 ?z12 ?z13
    (case aC0 => k_is)
    (case pg0 => k_is)
    (case hd0 => k_is)
    (case po0 => k_is)
    (case sa0 => k_is)
    (case mk0 => k_is)
    (case kc0 => k_is)
    (case nx0_0 => k_is)
    (case aC1 => k_is)
    (case pg1 => k_is)
    (case hd1 => k_is)
    (case po1 => k_is)
    (case sa1 => k_is)
    (case mk1 => k_is)
    (case kc1 => k_is)
    (case nx1_0 => k_is)
    (case nx1_1 => k_is)
    (case nx1_2 => k_is)
    (case nx1_3 => k_is)
    (case gi0 => k_is)
    (case gi1 => k_is)
    (case gi2 => k_is)
    (case gi3 => k_is)
    (case gi4 => k_is)
    (case gi5 => k_is)
    (case gi6 => k_is)
    (case gi7 => k_is)
    (case gi8 => k_is)
    (case a0 => k_is)
    (case i0 => k_is)
    (case l0 => k_is)
    (case c0 => k_is)
    (case k0 => k_is)
    (case a1 => k_is)
    (case i1 => k_is)
    (case l1 => k_is)
    (case c1 => k_is)
    (case k1 => k_is)
    (case a2 => k_is)
    (case i2 => k_is)
    (case l2 => k_is)
    (case c2 => k_is)
    (case k2 => k_is)
    (case a3 => k_is)
    (case l3 => k_is)
    (case c3 => k_is)
    (case k3 => k_is)
    (case a4 => k_is)
    (case l4 => k_is)
    (case c4 => k_is)
    (case k4 => k_is)
    (case a5 => k_is)
    (case l5 => k_is)
    (case c5 => k_is)
    (case k5 => k_is)
    (case a6 => k_is)
    (case l6 => k_is)
    (case c6 => k_is)
    (case k6 => k_is)
    (case a7 => k_is)
    (case l7 => k_is)
    (case c7 => k_is)
    (case k7 => k_is)
    (case a8 => k_is)
    (case l8 => k_is)
    (case c8 => k_is)
    (case k8 => k_is)
    (case a9 => k_is)
    (case l9 => k_is)
    (case c9 => k_is)
    (case k9 => k_is)
    (case a10 => k_is)
    (case l10 => k_is)
    (case c10 => k_is)
    (case k10 => k_is)
    (case a11 => k_is)
    (case l11 => k_is)
    (case c11 => k_is)
    (case k11 => k_is)
    (case a12 => k_is)
    (case l12 => k_is)
    (case c12 => k_is)
    (case k12 => k_is)
    (case a13 => k_is)
    (case l13 => k_is)
    (case c13 => k_is)
    (case k13 => k_is)
    (case a14 => k_is)
    (case l14 => k_is)
    (case c14 => k_is)
    (case k14 => k_is)
    (case a15 => k_is)
    (case l15 => k_is)
    (case c15 => k_is)
    (case k15 => k_is)
    (case a16 => k_is)
    (case i16 => k_is)
    (case l16 => k_is)
    (case c16 => k_is)
    (case k16 => k_is)
    (case a17 => k_is)
    (case i17 => k_is)
    (case gf17 => k_is)
    (case tk17 => k_is)
    (case fi17 => k_is)
    (case l17 => k_is)
    (case c17 => k_is)
    (case k17 => k_is)
    (case a18 => k_is)
    (case i18 => k_is)
    (case l18 => k_is)
    (case c18 => k_is)
    (case k18 => k_is)
    (case a19 => k_is)
    (case i19 => k_is)
    (case gf19 => k_is)
    (case tk19 => k_is)
    (case fi19 => k_is)
    (case l19 => k_is)
    (case c19 => k_is)
    (case k19 => k_is)
    (case a20 => k_is)
    (case i20 => k_is)
    (case l20 => k_is)
    (case c20 => k_is)
    (case k20 => k_is)
    (case a21 => k_is)
    (case l21 => k_is)
    (case c21 => k_is)
    (case k21 => k_is)
    (case a22 => k_is)
    (case l22 => k_is)
    (case c22 => k_is)
    (case k22 => k_is)
    (case a23 => k_is)
    (case l23 => k_is)
    (case c23 => k_is)
    (case k23 => k_is)
    (case a24 => k_is)
    (case l24 => k_is)
    (case c24 => k_is)
    (case k24 => k_is)
    (case a25 => k_is)
    (case l25 => k_is)
    (case c25 => k_is)
    (case k25 => k_is)
    (case a26 => k_is)
    (case l26 => k_is)
    (case c26 => k_is)
    (case k26 => k_is)
    (case a27 => k_is)
    (case l27 => k_is)
    (case c27 => k_is)
    (case k27 => k_is)
    (case a28 => k_is)
    (case l28 => k_is)
    (case c28 => k_is)
    (case k28 => k_is)
    (case a29 => k_is)
    (case l29 => k_is)
    (case c29 => k_is)
    (case k29 => k_is)
    (case a30 => k_is)
    (case l30 => k_is)
    (case c30 => k_is)
    (case k30 => k_is)
    (case a31 => k_is)
    (case l31 => k_is)
    (case c31 => k_is)
    (case k31 => k_is)
    (case a32 => k_is)
    (case l32 => k_is)
    (case c32 => k_is)
    (case k32 => k_is)
    (case a33 => k_is)
    (case l33 => k_is)
    (case c33 => k_is)
    (case k33 => k_is)
    (case a34 => k_is)
    (case l34 => k_is)
    (case c34 => k_is)
    (case k34 => k_is)
    (case a35 => k_is)
    (case l35 => k_is)
    (case c35 => k_is)
    (case k35 => k_is)
    (case a36 => k_is)
    (case l36 => k_is)
    (case c36 => k_is)
    (case k36 => k_is)
    (case a37 => k_is)
    (case l37 => k_is)
    (case c37 => k_is)
    (case k37 => k_is)
    (case a38 => k_is)
    (case l38 => k_is)
    (case c38 => k_is)
    (case k38 => k_is)
    (case a39 => k_is)
    (case l39 => k_is)
    (case c39 => k_is)
    (case k39 => k_is)
    (case a40 => k_is)
    (case l40 => k_is)
    (case c40 => k_is)
    (case k40 => k_is)
    (case a41 => k_is)
    (case l41 => k_is)
    (case c41 => k_is)
    (case k41 => k_is)
    (case a42 => k_is)
    (case l42 => k_is)
    (case c42 => k_is)
    (case k42 => k_is)
    (case a43 => k_is)
    (case l43 => k_is)
    (case c43 => k_is)
    (case k43 => k_is)
    (case a44 => k_is)
    (case l44 => k_is)
    (case c44 => k_is)
    (case k44 => k_is)
    (case a45 => k_is)
    (case l45 => k_is)
    (case c45 => k_is)
    (case k45 => k_is)
    (case z0 => k_is)
    (case z1 => k_is)
    (case z2 => k_is)
    (case z3 => k_is)
    (case z4 => k_is)
    (case z5 => k_is)
    (case z6 => k_is)
    (case z7 => k_is)
    (case z8 => k_is)
    (case z9 => k_is)
    (case z10 => k_is)
    (case z11 => k_is)
    (case z12 => k_is)
    (case z13 => k_is)

