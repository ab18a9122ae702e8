import PyProof.Rows.All
import Wide.All
import OpenK.AllK
import Wide.FinOn
import HandS.ForMost
import HandS.IsInst
import HandS.Conv
import HandS.TupAny
import HandS.Evl
import HandS.SetKeys
import HandS.Rev
import HandS.ForDict
import HandS.New
import HandS.Dict
import HandS.DictComp
import HandS.Zip
import HandS.More
import HandS.Walk
import HandS.Set
import HandS.Strs
import PyProof.EqAt
import PyProof.EqKinds
import HandS.Style
import HandS.Words
import HandS.Text
import HandS.FStr
import HandS.StrMore
import HandS.Small
import HandS.Iter
import KE.KDictPairs
import KE.GoesMore
import KE.GoesEnumKw
import PySem.Challenge.RW_exactkinds_k06_texts_with_spaces_and_com
set_option Elab.async false
set_option linter.all false
set_option maxRecDepth 100000
set_option maxHeartbeats 4000000
namespace Kx
open PySem PySem.Spec PyProof.Rows L2
def top (i : Nat) : Stmt := PySem.Challenge.pw_exactkinds_k06_texts_with_spaces_and_com.main.body.getD i (.Pass ⟨0, 0, 0, 0⟩)
abbrev s_is_word : Stmt := top 7
abbrev s_rows_of : Stmt := top 11
abbrev s_is_allowed : Stmt := top 12
abbrev s_Line_init : Stmt := inClass (top 13) 0
abbrev s_Line_refuse : Stmt := inClass (top 13) 1
abbrev s_Line_comes : Stmt := inClass (top 13) 2
abbrev s_Line_take : Stmt := inClass (top 13) 3
abbrev s_Line_skip : Stmt := inClass (top 13) 4
abbrev s_Line_finish : Stmt := inClass (top 13) 5
abbrev s_Line_take_word : Stmt := inClass (top 13) 6
abbrev s_Line_take_number : Stmt := inClass (top 13) 7
abbrev s_Line_take_tree : Stmt := inClass (top 13) 8
abbrev s_Line_take_trees : Stmt := inClass (top 13) 9
abbrev s_tokens_of : Stmt := top 14
abbrev s_token_end : Stmt := top 15
abbrev s_is_number : Stmt := top 16
abbrev s_most_open : Stmt := top 17
abbrev s_Question_init : Stmt := inClass (top 19) 0
abbrev s_take_question : Stmt := top 20
abbrev s_Draft_init : Stmt := inClass (top 22) 0
abbrev s_read : Stmt := top 23
abbrev s_drafted : Stmt := top 24
abbrev s_take_line : Stmt := top 25
abbrev s_take_maker : Stmt := top 26
abbrev s_take_constructor : Stmt := top 27
abbrev s_take_function : Stmt := top 28
abbrev s_take_kinds : Stmt := top 29
abbrev s_take_kind : Stmt := top 30
abbrev s_take_clause : Stmt := top 31
abbrev s_table : Stmt := top 32
abbrev s_program : Stmt := top 33
abbrev s_constructor_words : Stmt := top 34
abbrev s_kinds : Stmt := top 35
abbrev s_clauses : Stmt := top 36
abbrev s_declared : Stmt := top 37
abbrev s_law_state : Stmt := top 39
abbrev s_law_draw : Stmt := top 40
abbrev s_law_pick : Stmt := top 41
abbrev s_law_tree : Stmt := top 42
abbrev s_law_types : Stmt := top 43
abbrev s_law_table : Stmt := top 44
abbrev s_law_clause : Stmt := top 45
abbrev s_law_program : Stmt := top 46
abbrev s_law_text : Stmt := top 47
abbrev s_law_pairs : Stmt := top 48
abbrev s_law_lines : Stmt := top 49
abbrev s_law_is_letter : Stmt := top 50
abbrev s_law_spread : Stmt := top 51
abbrev s_law_same : Stmt := top 52
abbrev s_law : Stmt := top 53
theorem sc_is_word : FnScope ["value"] ["value"] (defScope s_is_word) := ⟨rfl, rfl, rfl, by decide +kernel, rfl, by decide +kernel, by decide +kernel⟩
theorem sc_rows_of : FnScope ["text", "sign"] ["text"] (defScope s_rows_of) := ⟨rfl, rfl, rfl, by decide +kernel, rfl, by decide +kernel, by decide +kernel⟩
theorem sc_is_allowed : FnScope ["sign"] ["sign"] (defScope s_is_allowed) := ⟨rfl, rfl, rfl, by decide +kernel, rfl, by decide +kernel, by decide +kernel⟩
theorem sc_Line_init : FnScope ["self", "row", "number", "asks"] ["self", "row", "number"] (defScope s_Line_init) := ⟨rfl, rfl, rfl, by decide +kernel, rfl, by decide +kernel, by decide +kernel⟩
theorem sc_Line_refuse : FnScope ["self"] ["self"] (defScope s_Line_refuse) := ⟨rfl, rfl, rfl, by decide +kernel, rfl, by decide +kernel, by decide +kernel⟩
theorem sc_Line_comes : FnScope ["self", "token"] ["self", "token"] (defScope s_Line_comes) := ⟨rfl, rfl, rfl, by decide +kernel, rfl, by decide +kernel, by decide +kernel⟩
theorem sc_Line_take : FnScope ["self"] ["self"] (defScope s_Line_take) := ⟨rfl, rfl, rfl, by decide +kernel, rfl, by decide +kernel, by decide +kernel⟩
theorem sc_Line_skip : FnScope ["self", "token"] ["self", "token"] (defScope s_Line_skip) := ⟨rfl, rfl, rfl, by decide +kernel, rfl, by decide +kernel, by decide +kernel⟩
theorem sc_Line_finish : FnScope ["self"] ["self"] (defScope s_Line_finish) := ⟨rfl, rfl, rfl, by decide +kernel, rfl, by decide +kernel, by decide +kernel⟩
theorem sc_Line_take_word : FnScope ["self", "token"] ["self"] (defScope s_Line_take_word) := ⟨rfl, rfl, rfl, by decide +kernel, rfl, by decide +kernel, by decide +kernel⟩
theorem sc_Line_take_number : FnScope ["self", "token"] ["self"] (defScope s_Line_take_number) := ⟨rfl, rfl, rfl, by decide +kernel, rfl, by decide +kernel, by decide +kernel⟩
theorem sc_Line_take_tree : FnScope ["self", "word"] ["self"] (defScope s_Line_take_tree) := ⟨rfl, rfl, rfl, by decide +kernel, rfl, by decide +kernel, by decide +kernel⟩
theorem sc_Line_take_trees : FnScope ["self", "found"] ["self"] (defScope s_Line_take_trees) := ⟨rfl, rfl, rfl, by decide +kernel, rfl, by decide +kernel, by decide +kernel⟩
theorem sc_tokens_of : FnScope ["row", "found", "start", "end"] ["row"] (defScope s_tokens_of) := ⟨rfl, rfl, rfl, by decide +kernel, rfl, by decide +kernel, by decide +kernel⟩
theorem sc_token_end : FnScope ["row", "start", "end"] ["row", "start"] (defScope s_token_end) := ⟨rfl, rfl, rfl, by decide +kernel, rfl, by decide +kernel, by decide +kernel⟩
theorem sc_is_number : FnScope ["token"] ["token"] (defScope s_is_number) := ⟨rfl, rfl, rfl, by decide +kernel, rfl, by decide +kernel, by decide +kernel⟩
theorem sc_most_open : FnScope ["tokens", "count", "most", "token"] ["tokens"] (defScope s_most_open) := ⟨rfl, rfl, rfl, by decide +kernel, rfl, by decide +kernel, by decide +kernel⟩
theorem sc_Question_init : FnScope ["self", "word", "asks"] ["self", "word"] (defScope s_Question_init) := ⟨rfl, rfl, rfl, by decide +kernel, rfl, by decide +kernel, by decide +kernel⟩
theorem sc_take_question : FnScope ["line", "question"] ["line"] (defScope s_take_question) := ⟨rfl, rfl, rfl, by decide +kernel, rfl, by decide +kernel, by decide +kernel⟩
theorem sc_Draft_init : FnScope ["self", "asks"] ["self", "asks"] (defScope s_Draft_init) := ⟨rfl, rfl, rfl, by decide +kernel, rfl, by decide +kernel, by decide +kernel⟩
theorem sc_read : FnScope ["text", "draft"] ["text"] (defScope s_read) := ⟨rfl, rfl, rfl, by decide +kernel, rfl, by decide +kernel, by decide +kernel⟩
theorem sc_drafted : FnScope ["text", "asks", "rows", "draft", "number", "row", "line"] ["text", "asks"] (defScope s_drafted) := ⟨rfl, rfl, rfl, by decide +kernel, rfl, by decide +kernel, by decide +kernel⟩
theorem sc_take_line : FnScope ["draft", "line", "first"] ["draft", "line"] (defScope s_take_line) := ⟨rfl, rfl, rfl, by decide +kernel, rfl, by decide +kernel, by decide +kernel⟩
theorem sc_take_maker : FnScope ["draft", "line", "word"] ["draft", "line"] (defScope s_take_maker) := ⟨rfl, rfl, rfl, by decide +kernel, rfl, by decide +kernel, by decide +kernel⟩
theorem sc_take_constructor : FnScope ["draft", "line", "word", "parts", "family", "index"] ["draft", "line"] (defScope s_take_constructor) := ⟨rfl, rfl, rfl, by decide +kernel, rfl, by decide +kernel, by decide +kernel⟩
theorem sc_take_function : FnScope ["draft", "line", "word", "falls", "params", "family", "index"] ["draft", "line"] (defScope s_take_function) := ⟨rfl, rfl, rfl, by decide +kernel, rfl, by decide +kernel, by decide +kernel⟩
theorem sc_take_kinds : FnScope ["line", "found"] ["line"] (defScope s_take_kinds) := ⟨rfl, rfl, rfl, by decide +kernel, rfl, by decide +kernel, by decide +kernel⟩
theorem sc_take_kind : FnScope ["line", "family", "term"] ["line"] (defScope s_take_kind) := ⟨rfl, rfl, rfl, by decide +kernel, rfl, by decide +kernel, by decide +kernel⟩
theorem sc_take_clause : FnScope ["draft", "line", "word", "patterns", "clauses"] ["draft", "line"] (defScope s_take_clause) := ⟨rfl, rfl, rfl, by decide +kernel, rfl, by decide +kernel, by decide +kernel⟩
theorem sc_table : FnScope ["draft", "makers", "constructors", "word", "parts", "family", "index"] ["draft"] (defScope s_table) := ⟨rfl, rfl, rfl, by decide +kernel, rfl, by decide +kernel, by decide +kernel⟩
theorem sc_program : FnScope ["draft", "makers", "constructors", "functions", "word", "params", "family", "index", "falls", "clauses", "head"] ["draft"] (defScope s_program) := ⟨rfl, rfl, rfl, by decide +kernel, rfl, by decide +kernel, by decide +kernel⟩
theorem sc_constructor_words : FnScope ["draft", "row"] ["draft"] (defScope s_constructor_words) := ⟨rfl, rfl, rfl, by decide +kernel, rfl, by decide +kernel, by decide +kernel⟩
theorem sc_kinds : FnScope ["kinds", "makers", "family", "term"] ["kinds", "makers"] (defScope s_kinds) := ⟨rfl, rfl, rfl, by decide +kernel, rfl, by decide +kernel, by decide +kernel⟩
theorem sc_clauses : FnScope ["clauses", "constructors", "found", "patterns", "body", "told", "pattern"] ["clauses", "constructors"] (defScope s_clauses) := ⟨rfl, rfl, rfl, by decide +kernel, rfl, by decide +kernel, by decide +kernel⟩
theorem sc_declared : FnScope ["tree", "words", "items", "part"] ["tree", "words"] (defScope s_declared) := ⟨rfl, rfl, rfl, by decide +kernel, rfl, by decide +kernel, by decide +kernel⟩
theorem sc_law_state : FnScope ["script", "seed", "cell"] ["script"] (defScope s_law_state) := ⟨rfl, rfl, rfl, by decide +kernel, rfl, by decide +kernel, by decide +kernel⟩
theorem sc_law_draw : FnScope ["state", "many", "cells", "value", "mixed"] ["state", "many"] (defScope s_law_draw) := ⟨rfl, rfl, rfl, by decide +kernel, rfl, by decide +kernel, by decide +kernel⟩
theorem sc_law_pick : FnScope ["state", "row"] ["state", "row"] (defScope s_law_pick) := ⟨rfl, rfl, rfl, by decide +kernel, rfl, by decide +kernel, by decide +kernel⟩
theorem sc_law_tree : FnScope ["state", "words", "names", "more", "deep", "parts", "k"] ["state", "words", "names", "more", "deep"] (defScope s_law_tree) := ⟨rfl, rfl, rfl, by decide +kernel, rfl, by decide +kernel, by decide +kernel⟩
theorem sc_law_types : FnScope ["state", "families", "makers", "names", "many", "k"] ["state", "families", "makers", "names", "many"] (defScope s_law_types) := ⟨rfl, rfl, rfl, by decide +kernel, rfl, by decide +kernel, by decide +kernel⟩
theorem sc_law_table : FnScope ["state", "word", "words", "makers", "families", "constructors", "parts", "made"] ["state"] (defScope s_law_table) := ⟨rfl, rfl, rfl, by decide +kernel, rfl, by decide +kernel, by decide +kernel⟩
theorem sc_law_clause : FnScope ["state", "constructors", "many", "patterns", "k"] ["state", "constructors", "many"] (defScope s_law_clause) := ⟨rfl, rfl, rfl, by decide +kernel, rfl, by decide +kernel, by decide +kernel⟩
theorem sc_law_program : FnScope ["state", "table", "makers", "constructors", "functions", "word", "many", "params", "told", "clauses", "maker", "one", "k"] ["state", "table"] (defScope s_law_program) := ⟨rfl, rfl, rfl, by decide +kernel, rfl, by decide +kernel, by decide +kernel⟩
theorem sc_law_text : FnScope ["tree", "part"] ["tree"] (defScope s_law_text) := ⟨rfl, rfl, rfl, by decide +kernel, rfl, by decide +kernel, by decide +kernel⟩
theorem sc_law_pairs : FnScope ["pairs", "pair"] ["pairs"] (defScope s_law_pairs) := ⟨rfl, rfl, rfl, by decide +kernel, rfl, by decide +kernel, by decide +kernel⟩
theorem sc_law_lines : FnScope ["table", "program", "lines", "family", "word", "parts", "index", "told", "params", "falls", "clauses", "patterns", "body", "maker", "one"] ["table", "program"] (defScope s_law_lines) := ⟨rfl, rfl, rfl, by decide +kernel, rfl, by decide +kernel, by decide +kernel⟩
theorem sc_law_is_letter : FnScope ["char"] ["char"] (defScope s_law_is_letter) := ⟨rfl, rfl, rfl, by decide +kernel, rfl, by decide +kernel, by decide +kernel⟩
theorem sc_law_spread : FnScope ["state", "line", "pieces", "k", "end", "text", "j", "least"] ["state", "line"] (defScope s_law_spread) := ⟨rfl, rfl, rfl, by decide +kernel, rfl, by decide +kernel, by decide +kernel⟩
theorem sc_law_same : FnScope ["told", "due", "k"] ["told", "due"] (defScope s_law_same) := ⟨rfl, rfl, rfl, by decide +kernel, rfl, by decide +kernel, by decide +kernel⟩
theorem sc_law : FnScope ["script", "state", "table", "program", "lines", "first", "rows", "order", "side", "text", "line"] ["script"] (defScope s_law) := ⟨rfl, rfl, rfl, by decide +kernel, rfl, by decide +kernel, by decide +kernel⟩
structure Txt (K : PySem.W.Frag) (mg : Str → Option Value) where
  c_Line : Addr
  cl_Line : Cls K c_Line
  mg_Line : mg "Line" = some (.ref c_Line)
  no_Line_number : NoAttr K c_Line "number"
  no_Line_at : NoAttr K c_Line "at"
  no_Line_tokens : NoAttr K c_Line "tokens"
  c_Question : Addr
  cl_Question : Cls K c_Question
  mg_Question : mg "Question" = some (.ref c_Question)
  c_Draft : Addr
  cl_Draft : Cls K c_Draft
  mg_Draft : mg "Draft" = some (.ref c_Draft)
  no_Draft_asks : NoAttr K c_Draft "asks"
  no_Draft_makers : NoAttr K c_Draft "makers"
  no_Draft_families : NoAttr K c_Draft "families"
  no_Draft_constructors : NoAttr K c_Draft "constructors"
  no_Draft_functions : NoAttr K c_Draft "functions"
  no_Draft_questions : NoAttr K c_Draft "questions"
  t_MOST_NAME : Tok
  g_MOST_NAME : mg "MOST_NAME" = some (.int 12 t_MOST_NAME)
  t_MOST_TEXT : Tok
  g_MOST_TEXT : mg "MOST_TEXT" = some (.int 6000 t_MOST_TEXT)
  t_MOST_OPEN : Tok
  g_MOST_OPEN : mg "MOST_OPEN" = some (.int 40 t_MOST_OPEN)
  t_MOST_DIGITS : Tok
  g_MOST_DIGITS : mg "MOST_DIGITS" = some (.int 2 t_MOST_DIGITS)
  t_PERCENT_CODE : Tok
  g_PERCENT_CODE : mg "PERCENT_CODE" = some (.int 37 t_PERCENT_CODE)
  a_is_word : Addr
  d_is_word : FuncData
  F_is_word : Fun K "is_word" "is_word" s_is_word a_is_word d_is_word
  b_is_word : Binds K d_is_word ["value"] []
  m_is_word : mg "is_word" = some (.ref a_is_word)
  a_rows_of : Addr
  d_rows_of : FuncData
  F_rows_of : Fun K "rows_of" "rows_of" s_rows_of a_rows_of d_rows_of
  b_rows_of : Binds K d_rows_of ["text"] []
  m_rows_of : mg "rows_of" = some (.ref a_rows_of)
  a_is_allowed : Addr
  d_is_allowed : FuncData
  F_is_allowed : Fun K "_is_allowed" "_is_allowed" s_is_allowed a_is_allowed d_is_allowed
  b_is_allowed : Binds K d_is_allowed ["sign"] []
  m_is_allowed : mg "_is_allowed" = some (.ref a_is_allowed)
  a_Line_init : Addr
  d_Line_init : FuncData
  F_Line_init : Fun K "__init__" "Line.__init__" s_Line_init a_Line_init d_Line_init
  b_Line_init : Binds K d_Line_init ["self", "row", "number"] []
  me_Line_init : Meth K c_Line "__init__" a_Line_init
  a_Line_refuse : Addr
  d_Line_refuse : FuncData
  F_Line_refuse : Fun K "refuse" "Line.refuse" s_Line_refuse a_Line_refuse d_Line_refuse
  b_Line_refuse : Binds K d_Line_refuse ["self"] []
  me_Line_refuse : Meth K c_Line "refuse" a_Line_refuse
  a_Line_comes : Addr
  d_Line_comes : FuncData
  F_Line_comes : Fun K "comes" "Line.comes" s_Line_comes a_Line_comes d_Line_comes
  b_Line_comes : Binds K d_Line_comes ["self", "token"] []
  me_Line_comes : Meth K c_Line "comes" a_Line_comes
  a_Line_take : Addr
  d_Line_take : FuncData
  F_Line_take : Fun K "take" "Line.take" s_Line_take a_Line_take d_Line_take
  b_Line_take : Binds K d_Line_take ["self"] []
  me_Line_take : Meth K c_Line "take" a_Line_take
  a_Line_skip : Addr
  d_Line_skip : FuncData
  F_Line_skip : Fun K "skip" "Line.skip" s_Line_skip a_Line_skip d_Line_skip
  b_Line_skip : Binds K d_Line_skip ["self", "token"] []
  me_Line_skip : Meth K c_Line "skip" a_Line_skip
  a_Line_finish : Addr
  d_Line_finish : FuncData
  F_Line_finish : Fun K "finish" "Line.finish" s_Line_finish a_Line_finish d_Line_finish
  b_Line_finish : Binds K d_Line_finish ["self"] []
  me_Line_finish : Meth K c_Line "finish" a_Line_finish
  a_Line_take_word : Addr
  d_Line_take_word : FuncData
  F_Line_take_word : Fun K "take_word" "Line.take_word" s_Line_take_word a_Line_take_word d_Line_take_word
  b_Line_take_word : Binds K d_Line_take_word ["self"] []
  me_Line_take_word : Meth K c_Line "take_word" a_Line_take_word
  a_Line_take_number : Addr
  d_Line_take_number : FuncData
  F_Line_take_number : Fun K "take_number" "Line.take_number" s_Line_take_number a_Line_take_number d_Line_take_number
  b_Line_take_number : Binds K d_Line_take_number ["self"] []
  me_Line_take_number : Meth K c_Line "take_number" a_Line_take_number
  a_Line_take_tree : Addr
  d_Line_take_tree : FuncData
  F_Line_take_tree : Fun K "take_tree" "Line.take_tree" s_Line_take_tree a_Line_take_tree d_Line_take_tree
  b_Line_take_tree : Binds K d_Line_take_tree ["self"] []
  me_Line_take_tree : Meth K c_Line "take_tree" a_Line_take_tree
  a_Line_take_trees : Addr
  d_Line_take_trees : FuncData
  F_Line_take_trees : Fun K "take_trees" "Line.take_trees" s_Line_take_trees a_Line_take_trees d_Line_take_trees
  b_Line_take_trees : Binds K d_Line_take_trees ["self"] []
  me_Line_take_trees : Meth K c_Line "take_trees" a_Line_take_trees
  a_tokens_of : Addr
  d_tokens_of : FuncData
  F_tokens_of : Fun K "_tokens_of" "_tokens_of" s_tokens_of a_tokens_of d_tokens_of
  b_tokens_of : Binds K d_tokens_of ["row"] []
  m_tokens_of : mg "_tokens_of" = some (.ref a_tokens_of)
  a_token_end : Addr
  d_token_end : FuncData
  F_token_end : Fun K "_token_end" "_token_end" s_token_end a_token_end d_token_end
  b_token_end : Binds K d_token_end ["row", "start"] []
  m_token_end : mg "_token_end" = some (.ref a_token_end)
  a_is_number : Addr
  d_is_number : FuncData
  F_is_number : Fun K "_is_number" "_is_number" s_is_number a_is_number d_is_number
  b_is_number : Binds K d_is_number ["token"] []
  m_is_number : mg "_is_number" = some (.ref a_is_number)
  a_most_open : Addr
  d_most_open : FuncData
  F_most_open : Fun K "_most_open" "_most_open" s_most_open a_most_open d_most_open
  b_most_open : Binds K d_most_open ["tokens"] []
  m_most_open : mg "_most_open" = some (.ref a_most_open)
  a_Question_init : Addr
  d_Question_init : FuncData
  F_Question_init : Fun K "__init__" "Question.__init__" s_Question_init a_Question_init d_Question_init
  b_Question_init : Binds K d_Question_init ["self", "word"] []
  me_Question_init : Meth K c_Question "__init__" a_Question_init
  a_take_question : Addr
  d_take_question : FuncData
  F_take_question : Fun K "take_question" "take_question" s_take_question a_take_question d_take_question
  b_take_question : Binds K d_take_question ["line"] []
  m_take_question : mg "take_question" = some (.ref a_take_question)
  a_Draft_init : Addr
  d_Draft_init : FuncData
  F_Draft_init : Fun K "__init__" "Draft.__init__" s_Draft_init a_Draft_init d_Draft_init
  b_Draft_init : Binds K d_Draft_init ["self", "asks"] []
  me_Draft_init : Meth K c_Draft "__init__" a_Draft_init
  a_read : Addr
  d_read : FuncData
  F_read : Fun K "read" "read" s_read a_read d_read
  b_read : Binds K d_read ["text"] []
  m_read : mg "read" = some (.ref a_read)
  a_drafted : Addr
  d_drafted : FuncData
  F_drafted : Fun K "_drafted" "_drafted" s_drafted a_drafted d_drafted
  b_drafted : Binds K d_drafted ["text", "asks"] []
  m_drafted : mg "_drafted" = some (.ref a_drafted)
  a_take_line : Addr
  d_take_line : FuncData
  F_take_line : Fun K "_take_line" "_take_line" s_take_line a_take_line d_take_line
  b_take_line : Binds K d_take_line ["draft", "line"] []
  m_take_line : mg "_take_line" = some (.ref a_take_line)
  a_take_maker : Addr
  d_take_maker : FuncData
  F_take_maker : Fun K "_take_maker" "_take_maker" s_take_maker a_take_maker d_take_maker
  b_take_maker : Binds K d_take_maker ["draft", "line"] []
  m_take_maker : mg "_take_maker" = some (.ref a_take_maker)
  a_take_constructor : Addr
  d_take_constructor : FuncData
  F_take_constructor : Fun K "_take_constructor" "_take_constructor" s_take_constructor a_take_constructor d_take_constructor
  b_take_constructor : Binds K d_take_constructor ["draft", "line"] []
  m_take_constructor : mg "_take_constructor" = some (.ref a_take_constructor)
  a_take_function : Addr
  d_take_function : FuncData
  F_take_function : Fun K "_take_function" "_take_function" s_take_function a_take_function d_take_function
  b_take_function : Binds K d_take_function ["draft", "line"] []
  m_take_function : mg "_take_function" = some (.ref a_take_function)
  a_take_kinds : Addr
  d_take_kinds : FuncData
  F_take_kinds : Fun K "_take_kinds" "_take_kinds" s_take_kinds a_take_kinds d_take_kinds
  b_take_kinds : Binds K d_take_kinds ["line"] []
  m_take_kinds : mg "_take_kinds" = some (.ref a_take_kinds)
  a_take_kind : Addr
  d_take_kind : FuncData
  F_take_kind : Fun K "_take_kind" "_take_kind" s_take_kind a_take_kind d_take_kind
  b_take_kind : Binds K d_take_kind ["line"] []
  m_take_kind : mg "_take_kind" = some (.ref a_take_kind)
  a_take_clause : Addr
  d_take_clause : FuncData
  F_take_clause : Fun K "_take_clause" "_take_clause" s_take_clause a_take_clause d_take_clause
  b_take_clause : Binds K d_take_clause ["draft", "line"] []
  m_take_clause : mg "_take_clause" = some (.ref a_take_clause)
  a_table : Addr
  d_table : FuncData
  F_table : Fun K "_table" "_table" s_table a_table d_table
  b_table : Binds K d_table ["draft"] []
  m_table : mg "_table" = some (.ref a_table)
  a_program : Addr
  d_program : FuncData
  F_program : Fun K "_program" "_program" s_program a_program d_program
  b_program : Binds K d_program ["draft"] []
  m_program : mg "_program" = some (.ref a_program)
  a_constructor_words : Addr
  d_constructor_words : FuncData
  F_constructor_words : Fun K "_constructor_words" "_constructor_words" s_constructor_words a_constructor_words d_constructor_words
  b_constructor_words : Binds K d_constructor_words ["draft"] []
  m_constructor_words : mg "_constructor_words" = some (.ref a_constructor_words)
  a_kinds : Addr
  d_kinds : FuncData
  F_kinds : Fun K "_kinds" "_kinds" s_kinds a_kinds d_kinds
  b_kinds : Binds K d_kinds ["kinds", "makers"] []
  m_kinds : mg "_kinds" = some (.ref a_kinds)
  a_clauses : Addr
  d_clauses : FuncData
  F_clauses : Fun K "_clauses" "_clauses" s_clauses a_clauses d_clauses
  b_clauses : Binds K d_clauses ["clauses", "constructors"] []
  m_clauses : mg "_clauses" = some (.ref a_clauses)
  a_declared : Addr
  d_declared : FuncData
  F_declared : Fun K "_declared" "_declared" s_declared a_declared d_declared
  b_declared : Binds K d_declared ["tree", "words"] []
  m_declared : mg "_declared" = some (.ref a_declared)
  a_law_state : Addr
  d_law_state : FuncData
  F_law_state : Fun K "_law_state" "_law_state" s_law_state a_law_state d_law_state
  b_law_state : Binds K d_law_state ["script"] []
  m_law_state : mg "_law_state" = some (.ref a_law_state)
  a_law_draw : Addr
  d_law_draw : FuncData
  F_law_draw : Fun K "_law_draw" "_law_draw" s_law_draw a_law_draw d_law_draw
  b_law_draw : Binds K d_law_draw ["state", "many"] []
  m_law_draw : mg "_law_draw" = some (.ref a_law_draw)
  a_law_pick : Addr
  d_law_pick : FuncData
  F_law_pick : Fun K "_law_pick" "_law_pick" s_law_pick a_law_pick d_law_pick
  b_law_pick : Binds K d_law_pick ["state", "row"] []
  m_law_pick : mg "_law_pick" = some (.ref a_law_pick)
  a_law_tree : Addr
  d_law_tree : FuncData
  F_law_tree : Fun K "_law_tree" "_law_tree" s_law_tree a_law_tree d_law_tree
  b_law_tree : Binds K d_law_tree ["state", "words", "names", "more", "deep"] []
  m_law_tree : mg "_law_tree" = some (.ref a_law_tree)
  a_law_types : Addr
  d_law_types : FuncData
  F_law_types : Fun K "_law_types" "_law_types" s_law_types a_law_types d_law_types
  b_law_types : Binds K d_law_types ["state", "families", "makers", "names", "many"] []
  m_law_types : mg "_law_types" = some (.ref a_law_types)
  a_law_table : Addr
  d_law_table : FuncData
  F_law_table : Fun K "_law_table" "_law_table" s_law_table a_law_table d_law_table
  b_law_table : Binds K d_law_table ["state"] []
  m_law_table : mg "_law_table" = some (.ref a_law_table)
  a_law_clause : Addr
  d_law_clause : FuncData
  F_law_clause : Fun K "_law_clause" "_law_clause" s_law_clause a_law_clause d_law_clause
  b_law_clause : Binds K d_law_clause ["state", "constructors", "many"] []
  m_law_clause : mg "_law_clause" = some (.ref a_law_clause)
  a_law_program : Addr
  d_law_program : FuncData
  F_law_program : Fun K "_law_program" "_law_program" s_law_program a_law_program d_law_program
  b_law_program : Binds K d_law_program ["state", "table"] []
  m_law_program : mg "_law_program" = some (.ref a_law_program)
  a_law_text : Addr
  d_law_text : FuncData
  F_law_text : Fun K "_law_text" "_law_text" s_law_text a_law_text d_law_text
  b_law_text : Binds K d_law_text ["tree"] []
  m_law_text : mg "_law_text" = some (.ref a_law_text)
  a_law_pairs : Addr
  d_law_pairs : FuncData
  F_law_pairs : Fun K "_law_pairs" "_law_pairs" s_law_pairs a_law_pairs d_law_pairs
  b_law_pairs : Binds K d_law_pairs ["pairs"] []
  m_law_pairs : mg "_law_pairs" = some (.ref a_law_pairs)
  a_law_lines : Addr
  d_law_lines : FuncData
  F_law_lines : Fun K "_law_lines" "_law_lines" s_law_lines a_law_lines d_law_lines
  b_law_lines : Binds K d_law_lines ["table", "program"] []
  m_law_lines : mg "_law_lines" = some (.ref a_law_lines)
  a_law_is_letter : Addr
  d_law_is_letter : FuncData
  F_law_is_letter : Fun K "_law_is_letter" "_law_is_letter" s_law_is_letter a_law_is_letter d_law_is_letter
  b_law_is_letter : Binds K d_law_is_letter ["char"] []
  m_law_is_letter : mg "_law_is_letter" = some (.ref a_law_is_letter)
  a_law_spread : Addr
  d_law_spread : FuncData
  F_law_spread : Fun K "_law_spread" "_law_spread" s_law_spread a_law_spread d_law_spread
  b_law_spread : Binds K d_law_spread ["state", "line"] []
  m_law_spread : mg "_law_spread" = some (.ref a_law_spread)
  a_law_same : Addr
  d_law_same : FuncData
  F_law_same : Fun K "_law_same" "_law_same" s_law_same a_law_same d_law_same
  b_law_same : Binds K d_law_same ["told", "due"] []
  m_law_same : mg "_law_same" = some (.ref a_law_same)
  a_law : Addr
  d_law : FuncData
  F_law : Fun K "law" "law" s_law a_law d_law
  b_law : Binds K d_law ["script"] []
  m_law : mg "law" = some (.ref a_law)
  mk_Line : Mk K c_Line a_Line_init
  mk_Question : Mk K c_Question a_Question_init
  mk_Draft : Mk K c_Draft a_Draft_init
  z_isinstance : mg "isinstance" = none
  z_str : mg "str" = none
  z_len : mg "len" = none
  z_ord : mg "ord" = none
  z_int : mg "int" = none
  z_tuple : mg "tuple" = none
  z_max : mg "max" = none
  z_enumerate : mg "enumerate" = none
  z_dict : mg "dict" = none
  z_abs : mg "abs" = none
  z_range : mg "range" = none
  z_bool : mg "bool" = none
  z_list : mg "list" = none
end Kx
set_option maxHeartbeats 2000000
/-! Rules of our own over the layer: see the remarks. -/
namespace Kx
open PySem PySem.Spec PyProof.Rows L2
/-! ### rules with the written part named (for the blocks of comprehensions) -/
section
variable {X : Cx} {K : PySem.W.Frag}
theorem inSeqK (h : X.K = K := by rfl) : OpR X (compareOp .In) (rIn K false) := by subst h; exact op_in_seq
theorem notInSeqK (h : X.K = K := by rfl) : OpR X (compareOp .NotIn) (rIn K true) := by subst h; exact op_notIn_seq
theorem ixLK (h : X.K = K := by rfl) : IxR X (rIxL K) := by subst h; exact ix_list
theorem ixTK (h : X.K = K := by rfl) : IxR X (rIxT K) := by subst h; exact ix_tup
end
/-! ### l.extend(t), t a tuple -/
def rExtT (K : PySem.W.Frag) : V → List V → Hp → VK → Prop := fun x vs H Q => ∃ l b xs zs, x = .ref l ∧ vs = [.ref b] ∧ H l = some (.lst xs) ∧ (∃ o : Obj, H b = some (.frz o (.tup zs)) ∧ o.dict = none ∧ o.slots = #[]) ∧ xs.length + zs.length ≤ sizeLine ∧ Q .non (upd H l (.lst (xs ++ zs)))
section
variable {X : Cx}
theorem mt_extT : MtR X "list.extend" (rExtT X.K) := by
  intro pins s σ H x vs v us Q I rx rv hyp
  obtain ⟨l, b, xs, zs, rfl, rfl, hH, ⟨o, hB, hd, hsl⟩, hz, fin⟩ := hyp
  cases rx
  obtain ⟨u, rfl, ru⟩ := rv.one
  cases ru
  obtain ⟨z, its, n, r, hl, e⟩ := I.lstM hH
  obtain ⟨e2, z2, its2, r2, hT⟩ := (show ObjOk X.prog X.w H s.heap b (.frz o (.tup zs)) from I.hok b _ hB)
  obtain ⟨o2, e3, hc2, n2, hd2⟩ := hT
  rw [e2] at e3
  cases e3
  obtain ⟨oc, od, dt, sl⟩ := o
  simp only at hc2 hd2 hd hsl
  subst hc2 hd2 hd hsl
  have w1 : its.length = xs.length := r.length.symm
  have w2 : its2.length = zs.length := r2.length.symm
  have size2 : its.toArray.size + its2.toArray.size ≤ sizeLine := by
    simp only [List.size_toArray, w1, w2]; exact hz
  have few : ¬ (!its.toArray.isEmpty && Builtin.List.listTooLong (its.toArray.size + its2.toArray.size)) = true := by
    rw [notLongL size2, Bool.and_false]; simp
  refine call_meets F.slot_list_extend ⟨_, e, rfl⟩ F.entry_list_extend (F.args_list_extend_2 _ _)
    (AutoSeq1.list_extend_list_tuple_0 l its.toArray n b its2.toArray n2 few (Nat.le_trans (Nat.le_add_right _ _) size2) (Nat.le_succ_of_le size2)) ⟨e, e2, ?_⟩
  refine ⟨.non, _, I.lset (its' := its ++ its2) hH e (by simp) (r.append r2) ?_, rfl, fin⟩
  simp only [List.length_append]; exact hz
end
/-! ### t[:0:-1]: a tuple backwards without its first item -/
section
variable {prog : Program} {w : World} {A : Around} {E : Value → Shared → Prop} {s : Shared}
theorem back_pick {α : Type} : ∀ l : List α, (List.range l.length).filterMap (fun m => l[l.length - 1 - m]?) = l.reverse := by
  intro l
  have h : ∀ k, k ≤ l.length → (List.range k).filterMap (fun m => l[l.length - 1 - m]?) = (l.drop (l.length - k)).reverse := by
    intro k
    induction k with
    | zero => intro _; simp
    | succ k ih =>
      intro hk
      rw [List.range_succ, List.filterMap_append, ih (by omega)]
      have e : l.drop (l.length - (k + 1)) = l[l.length - (k + 1)]'(by omega) :: l.drop (l.length - k) := by
        rw [List.drop_eq_getElem_cons (by omega)]
        congr 2
        omega
      rw [e, List.reverse_cons]
      congr 1
      have e2 : l[l.length - 1 - k]? = some (l[l.length - (k + 1)]'(by omega)) := by
        rw [← List.getElem?_eq_getElem]
        congr 1
        omega
      simp [e2]
  have := h l.length (Nat.le_refl _)
  simpa using this
theorem back_pick1 (xs : List Value) (h1 : 1 ≤ xs.length) : (List.range (xs.length - 1)).filterMap (fun (m : Nat) => xs[(((xs.length - 1 : Nat) : Int) + (m : Int) * (-1)).toNat]?) = (xs.drop 1).reverse := by
  have h := back_pick (xs.drop 1)
  rw [List.length_drop] at h
  rw [← h]
  have key : ∀ k, k ≤ xs.length - 1 → (List.range k).filterMap (fun (m : Nat) => xs[(((xs.length - 1 : Nat) : Int) + (m : Int) * (-1)).toNat]?) = (List.range k).filterMap (fun m => (xs.drop 1)[xs.length - 1 - 1 - m]?) := by
    intro k
    induction k with
    | zero => intro _; rfl
    | succ k ih =>
      intro hk
      rw [List.range_succ, List.filterMap_append, List.filterMap_append, ih (by omega)]
      congr 1
      have e : (((xs.length - 1 : Nat) : Int) + (k : Int) * (-1)).toNat = 1 + (xs.length - 1 - 1 - k) := by omega
      simp only [List.filterMap_cons, List.filterMap_nil, e, List.getElem?_drop]
  exact key _ (Nat.le_refl _)
theorem back_adjust (n : Nat) (h : 1 ≤ n) : Builtin.Slice.sliceAdjust none (some 0) (-1) (n : Int) = (((n - 1 : Nat) : Int), 0) := by
  unfold Builtin.Slice.sliceAdjust
  simp only [show ((-1 : Int) < 0) from by omega, if_true]
  refine Prod.ext ?_ ?_
  · show (n : Int) - 1 = _; omega
  · show (if (0 : Int) < 0 then max ((0 : Int) + (n : Int)) (-1) else min (0 : Int) ((n : Int) - 1)) = 0
    rw [if_neg (by omega)]; omega
theorem back_places (n : Nat) : Builtin.Slice.slicePlaces ((n : Nat) : Int) 0 (-1) = n := by
  unfold Builtin.Slice.slicePlaces
  simp only [show ¬ ((-1 : Int) > 0) from by omega, if_false, Int.neg_neg, Int.ediv_one]
  split <;> omega
theorem back_applied {sl : Addr} {vl vu vs : Value} {n : Nat} {Q : Int × Int × Nat → Shared → Prop} (h1 : 1 ≤ n) (hs : s.heap.IsSliceOf sl vl vu vs) (pl : IsPart vl none) (pu : IsPart vu (some 0)) (ps : IsPart vs (some (-1)))
    (h : Q (((n - 1 : Nat) : Int), -1, n - 1) s) : wpAny (model prog w) A (Builtin.Slice.sliceApplied (.ref sl) (pure (n : Int))) Q E s := by
  obtain ⟨os, ho, hc, hd⟩ := id hs
  unfold Builtin.Slice.sliceApplied Builtin.Slice.sliceFields
  refine wpAny_bind (wpAny_bind (wpAny_field ho hd (x := vl) rfl (wpAny_bind (wpAny_field ho hd (x := vu) rfl (wpAny_bind (wpAny_field ho hd (x := vs) rfl (wpAny_pure ?_)))))))
  refine wpAny_bind (HT.slicePart_ ps ?_)
  show wpAny _ _ (if ((-1 : Int) == 0) = true then _ else _) _ _ s
  rw [if_neg (by decide)]
  refine wpAny_bind (HT.slicePart_ pl (wpAny_bind (HT.slicePart_ pu (wpAny_bind (wpAny_pure ?_)))))
  show wpAny _ _ (match Builtin.Slice.sliceAdjust none (some 0) (-1) (n : Int) with | (lo, hi) => pure (lo, (-1 : Int), Builtin.Slice.slicePlaces lo hi (-1))) _ _ s
  rw [back_adjust n h1]
  show wpAny _ _ (pure (((n - 1 : Nat) : Int), (-1 : Int), Builtin.Slice.slicePlaces ((n - 1 : Nat) : Int) 0 (-1))) _ _ s
  rw [back_places]
  exact wpAny_pure h
theorem getItem_back {t sl : Addr} {items : Array Value} {vl vu vs : Value} {Q : Value → Shared → Prop} (h1 : 1 ≤ items.size) (ht : IsTup s.heap t items) (hs : s.heap.IsSliceOf sl vl vu vs) (pl : IsPart vl none) (pu : IsPart vu (some 0)) (ps : IsPart vs (some (-1)))
    (h : Q (.ref s.heap.objs.size) { s with heap := s.heap.push { cls := .type "tuple", data := .seq ((items.toList.drop 1).reverse).toArray } })
    (hsz : items.size ≤ sizeLine) : wpAny (model prog w) A (getItem (.ref t) (.ref sl)) Q E s := by
  have fits : sizeOk (.seq ((items.toList.drop 1).reverse).toArray) := by
    show ((items.toList.drop 1).reverse).toArray.size ≤ sizeLine
    simp only [List.size_toArray, List.length_reverse, List.length_drop, Array.length_toList]
    omega
  obtain ⟨os, ho, hc, hd⟩ := id hs
  have ty : s.TypeIs (.ref sl) "slice" := ⟨os, ho, hc⟩
  unfold getItem
  try with_reducible refine wpAny_holding ?_
  first | refine wpAny_bind (wpAny_pure ?_) | skip
  refine wpAny_bind (wpAny_sequenceKey ht.typeIs (by decide) ?_)
  refine wpAny_bind (wpAny_callSpecial?_slot (name := Str.ofString "__getitem__") ht.typeIs PyProof.Rows.slot_tuple_getitem
    (wpAny_call_entry PyProof.Rows.slot_tuple_getitem ht.typeIs F.entry_tuple_getitem ?_ (F.args_tuple_getitem_2 _ _)))
  show wpAny _ _ (Builtin.Tuple.tupleItemsOf (.ref t) >>= _) _ _ s
  refine wpAny_bind (tupleItemsOf_ ht ?_)
  refine wpAny_bind (wpAny_typeOf ty ?_)
  rw [if_pos (by decide)]
  refine wpAny_bind (back_applied (n := items.size) h1 hs pl pu ps ?_)
  have no : ¬ ((((items.size - 1 : Nat) : Int) == 0 && (-1 : Int) == 1 && (items.size - 1) == items.size) = true) := by simp
  show wpAny _ _ (if (((items.size - 1 : Nat) : Int) == 0 && (-1 : Int) == 1 && (items.size - 1) == items.size) = true then _ else _) _ _ s
  have e := back_pick1 items.toList (by simpa using h1)
  simp only [Array.length_toList, Array.getElem?_toList] at e
  rw [if_neg no, e]
  first
    | exact wpAny_bind (m := Builtin.Tuple.tupleExact _) (wpAny_newObj_type (wpAny_pure ⟨_, rfl, wpAny_pure h⟩) fits)
    | exact wpAny_bind (m := Builtin.Tuple.tupleExact _) (wpAny_newObj_type (wpAny_bind (wpAny_pure (wpAny_pure ⟨_, rfl, wpAny_pure h⟩))) fits)
    | exact wpAny_bind (wpAny_bind (m := Builtin.Tuple.tupleExact _) (wpAny_newObj_type (wpAny_pure (wpAny_pure ⟨_, rfl, wpAny_pure h⟩)) fits))
    | exact wpAny_bind (wpAny_bind (m := Builtin.Tuple.tupleExact _) (wpAny_newObj_type (wpAny_pure ⟨_, rfl, wpAny_pure h⟩) fits))
end
/-- what t[:0:-1] asks: t is not empty; the new tuple is told as an object that stands as it is -/
def tBackT (K : PySem.W.Frag) (te : TE) : TE := fun σ H Q => te σ H fun x H1 => ∃ a xs, x = .ref a ∧ SqT K H1 a xs ∧ xs ≠ [] ∧ ∀ p (o : Obj), H1 p = none → o.dict = none → o.slots = #[] → Q (.ref p) (upd H1 p (.frz o (.tup (xs.drop 1).reverse)))
section
variable {X : Cx}
theorem pe_cutback {e : Expr} {te : TE} {j k : Nat} {p0 p1 p2 p3 pos : Pos} (he : PE X e te) : PE X (.Subscript e (.Slice none (some (.Constant (.int 0) j p0)) (some (.UnaryOp .USub (.Constant (.int 1) k p1) p2)) p3) pos) (tBackT X.K te) := by
  refine ⟨fun pins s σ H Q I h => ?_⟩
  refine Subscript_ (thn (he.run pins s σ H _ I h) fun v s1 ⟨x, H1, I1, r1, q1⟩ => ?_)
  obtain ⟨a, xs, ex, hx, hne, fin⟩ := q1
  subst ex
  cases r1
  have hst : PO X (some (.UnaryOp .USub (.Constant (.int 1) k p1) p2)) (tPart (tUn (rU fun i => .int (-i)) (tC (.int 1)))) := po_some (pe_un un_neg pe_int)
  have hup : PO X (some (.Constant (.int 0) j p0)) (tPart (tC (.int 0))) := po_some pe_int
  refine wpAny_Slice (thn (po_none.run pins s1 σ H1 (fun o H2 => o = none ∧ H2 = H1) I1 ⟨rfl, rfl⟩) fun vl s2 ⟨l, H2, I2, pl, el, e2⟩ => ?_)
  subst el e2
  refine thn (hup.run pins s2 σ H2 (fun o H3 => o = some 0 ∧ H3 = H2) I2 ⟨0, rfl, rfl, rfl⟩) fun vu s3 ⟨u, H3, I3, pu, eu, e3⟩ => ?_
  subst eu e3
  refine thn (hst.run pins s3 σ H3 (fun o H4 => o = some (-1) ∧ H4 = H3) I3 ⟨1, rfl, -1, rfl, rfl, rfl⟩) fun vs s4 ⟨o, H4, I4, ps, eo, e4⟩ => ?_
  subst eo e4
  have I5 : Inv X pins σ H4 { s4 with heap := s4.heap.push { cls := .type "slice", data := .fields #[vl, vu, vs] } } := I4.kept (t' := s4.toks) fun b ob q => Heap.get?_push_of_some _ q
  obtain ⟨its, r, ht, hz⟩ := I5.tuple hx
  have hlen : its.length = xs.length := r.length.symm
  have h1 : 1 ≤ xs.length := by cases xs with | nil => exact absurd rfl hne | cons _ _ => simp
  show wpAny (model X.prog X.w) X.A (subscriptTail e (.Slice none (some (.Constant (.int 0) j p0)) (some (.UnaryOp .USub (.Constant (.int 1) k p1) p2)) p3) (.ref a) (.ref s4.heap.objs.size)) (EP X pins σ Q) X.xe { s4 with heap := s4.heap.push { cls := .type "slice", data := .fields #[vl, vu, vs] } }
  refine tail_any (ops := [.ref a, .ref s4.heap.objs.size]) ht.typeIs (PyProof.Rows.slot_tuple_getitem.lookup) ?_ (by with_unfolding_all rfl)
  refine getItem_back (by rw [List.size_toArray, hlen]; exact h1) ht (Heap.IsSliceOf.new _ vl vu vs) pl pu ps ?_ (by rw [List.size_toArray, hlen]; exact hz)
  refine ⟨.ref _, _, I5.laid (t' := s4.toks) (o := .frz { cls := .type "tuple", data := .seq ((its.drop 1).reverse).toArray } (.tup (xs.drop 1).reverse)) (fun b ob q => Heap.get?_push_of_some _ q) (Nat.le_refl _) ?_, rfl, fin _ _ (I5.hok.fresh (Nat.le_refl _)) rfl rfl⟩
  refine ⟨Heap.get?_push_size _ rfl, ?_, _, (r.drop 1).reverse, IsTup.new _ _⟩
  rw [List.length_reverse, List.length_drop]
  exact Nat.le_trans (Nat.sub_le _ _) hz
/-! ### tuple(l) of a list, told as an object that stands as it is -/
theorem call_tupleF : CallR X (.type "tuple") (fun xs H Q => ∃ p ys, xs = [.ref p] ∧ SqL X.K H p ys ∧ ∀ l (o : Obj), H l = none → o.dict = none → o.slots = #[] → Q (.ref l) (upd H l (.frz o (.tup ys)))) := by
  intro pins s σ H xs us Q I r hyp
  obtain ⟨p, ys, rfl, hq, fin⟩ := hyp
  obtain ⟨u, rfl, rx⟩ := vals1 r
  cases rx
  obtain ⟨its, r', pl, hz⟩ := I.list hq
  have w1 : its.length = ys.length := r'.length.symm
  refine call_tuple_list pl.isList (fun h' kp => ?_) (by rw [List.size_toArray, w1]; exact hz)
  have J : Inv X pins σ H { s with heap := h' } := I.kept (t' := s.toks) kp
  have J2 : Inv X pins σ (upd H h'.objs.size (.frz { cls := .type "tuple", data := .seq its.toArray } (.tup ys))) { s with heap := h'.push { cls := .type "tuple", data := .seq its.toArray } } :=
    J.laid (t' := s.toks) (fun b o e => Heap.get?_push_of_some _ e) (Nat.le_refl _) ⟨Heap.get?_push_size _ rfl, hz, its, r', IsTup.new _ _⟩
  exact ⟨.ref h'.objs.size, _, J2, rfl, fin _ _ (J.hok.fresh (Nat.le_refl _)) rfl rfl⟩
/-! ### dict(t) of a tuple of pairs -/
theorem pairs_list {pins : List (Addr × Obj)} {σ : L2.St} {H : Hp} {s : Shared} (I : Inv X pins σ H s) : ∀ {ps : List Addr} {kvs : List (Key × V)}, Paired (fun p kv => SqT X.K H p [kV kv.1, kv.2]) ps kvs →
    ∃ (prs : List (Key × Value)) (psv : List (Value × Value)), KV kvs prs ∧ prs.length = ps.length ∧ psv.length = ps.length ∧ ∀ (j : Nat) (u v : Value), psv[j]? = some (u, v) → ∃ b k, ps[j]? = some b ∧ prs[j]? = some (k, v) ∧ IsTup s.heap b #[u, v] ∧ keyIs k u = true
  | _, _, .nil => ⟨[], [], .nil, rfl, rfl, fun j u v e => by simp at e⟩
  | _, _, .cons (a := p) (b := kv) h t => by
    obtain ⟨prs, psv, r, l1, l2, hp⟩ := pairs_list I t
    obtain ⟨its, rv, ht, _⟩ := I.tuple h
    obtain ⟨u, y, ei, ru, ry⟩ := vals2 rv
    subst ei
    refine ⟨(kv.1, y) :: prs, (u, y) :: psv, .cons ⟨rfl, ry⟩ r, by simp [l1], by simp [l2], fun j u' v' e => ?_⟩
    cases j with
    | zero =>
      cases (Option.some.inj e)
      exact ⟨p, kv.1, rfl, rfl, ht, kV_is (P := X.prog) (w := X.w) ru⟩
    | succ j => exact hp j u' v' (by simpa using e)
theorem call_dictT (hcalm : X.calm = true) : CallR X (.type "dict") (fun xs H Q => ∃ (a : Addr) (o : Obj) (ps : List Addr) (kvs : List (Key × V)), xs = [.ref a] ∧ H a = some (.frz o (.tup (ps.map V.ref))) ∧ o.dict = none ∧ Paired (fun p kv => SqT X.K H p [kV kv.1, kv.2]) ps kvs ∧
    ∀ p, H p = none → Q (.ref p) (upd H p (.dK (mergeK [] kvs)))) := by
  intro pins s σ H xs us Q I r hyp
  obtain ⟨a, o, ps, kvs, ex, hq, hd, hp, fin⟩ := hyp
  subst ex
  obtain ⟨u, eu, rx⟩ := vals1 r
  subst eu
  cases rx
  obtain ⟨e2, hz, its, rv, hT⟩ := (show ObjOk X.prog X.w H s.heap a (.frz o (.tup (ps.map V.ref))) from I.hok a _ hq)
  obtain ⟨o2, e3, hc2, n2, hd2⟩ := hT
  rw [e2] at e3
  cases e3
  have ei := refs_at rv
  subst ei
  rw [List.length_map] at hz
  obtain ⟨prs, psv, rel, l1, l2, hpr⟩ := pairs_list I hp
  have items : PairItems s.heap (ps.map Value.ref).toArray (fun j => ps.getD j 0) psv := by
    refine ⟨by simp [l2], fun j k v e => ?_⟩
    obtain ⟨b, k', e1, _, e4, _⟩ := hpr j k v e
    refine ⟨by simp [e1], ?_⟩
    have eb : ps.getD j 0 = b := by simp [List.getD, e1]
    show PairAt s.heap (ps.getD j 0) k v
    rw [eb]
    exact .inl e4
  refine PySem.call_dict_pairs (knd := mixKind X.prog X.w) (kvs := prs) (PairArg.tuple a (ps.map Value.ref).toArray (fun j => ps.getD j 0) psv) (I.ok.hd hcalm) ⟨⟨o, n2, e2, hc2, hd, hd2⟩, items⟩ ⟨by rw [l1, l2], fun i key v e => ?_⟩ (by rw [l2]; exact hz) fun h' tk hd' k => ?_
  · obtain ⟨b, k', _, e5, _, e6⟩ := hpr i key v e
    exact ⟨k', e5, e6⟩
  · have hm : (s.heap.objs.size == sysModules) = false := beq_eq_false_iff_ne.mpr (Nat.ne_of_gt I.big)
    have few : (mergeK [] kvs).length ≤ sizeLine := by
      have z := length_mergeK kvs []
      rw [List.length_nil, Nat.zero_add, rel.length, l1] at z
      exact Nat.le_trans z hz
    exact ⟨.ref s.heap.objs.size, _, I.laid (t' := tk) (fun b o q => k b o (by simp) q) (Nat.le_refl _) (show ObjOk X.prog X.w _ _ _ (.dK (mergeK [] kvs)) from ⟨few, hm, merged [] prs, KV.merge rel .nil, hd'⟩), rfl, fin _ (I.hok.fresh (Nat.le_refl _))⟩
end
end Kx
namespace Kx
open PySem PySem.Spec PyProof.Rows L2
/-- a block cut behind its first statement: what holds there is named -/
theorem pss_cutK {X : Cx} {st : Stmt} {rest : List Stmt} {t u : TS} (h1 : PS X st t) (h2 : PSs X rest u) :
    PSs X (st :: rest) (fun D σ H => ∃ Mid : L2.St → Hp → Prop, t { D with nx := Mid } σ H ∧ ∀ σ' H', Mid σ' H' → u D σ' H') := Evl.pss_cut h1 h2
end Kx
namespace Kx
open PySem PySem.Spec PyProof.Rows L2
section
variable {X : Cx}
/-- a test, an expression, with a word behind it: what follows is shown once -/
theorem pt_cut {e : Expr} {t : TT} (h : PT X e t) : PT X e (fun σ H Q => ∃ M : Bool → Hp → Prop, t σ H M ∧ ∀ b H1, M b H1 → Q b H1) :=
  ⟨fun pins s σ H Q I ⟨M, hm, k⟩ => thn (h.run pins s σ H M I hm) fun b s1 ⟨H1, I1, q⟩ => ⟨H1, I1, k b H1 q⟩⟩
theorem pe_cut {e : Expr} {t : TE} (h : PE X e t) : PE X e (fun σ H Q => ∃ M : VK, t σ H M ∧ ∀ v H1, M v H1 → Q v H1) :=
  ⟨fun pins s σ H Q I ⟨M, hm, k⟩ => thn (h.run pins s σ H M I hm) fun b s1 ⟨v, H1, I1, r, q⟩ => ⟨v, H1, I1, r, k v H1 q⟩⟩
end
end Kx
namespace Kx
open PySem PySem.Spec PyProof.Rows L2
/-- a comprehension without a test: its element is asked -/
theorem yes_if {σ : L2.St} {H : Hp} {A B : Hp → Prop} (h : A H) : tYes σ H (fun b H3 => if b = true then A H3 else B H3) := by
  have e : (if true = true then A H else B H) := iteT h
  exact e
end Kx
set_option maxHeartbeats 400000
/-! for i, x in enumerate(l, start=1): a list. -/
namespace Kx
open PySem PySem.Spec PyProof.Rows L2
/-- the list at a, each item in a new pair with its number from 1 -/
def IteS (K : PySem.W.Frag) (a : Addr) : It :=
  ⟨fun i H => ∃ (xs : List V) (x : V), SqL K H a xs ∧ xs[i]? = some x, fun i H v H' => ∃ t x, v = .ref t ∧ H t = none ∧ H' = upd H t (.tup [.int (1 + (i : Int)), x]) ∧ ∀ xs, SqL K H a xs → xs[i]? = some x, fun i H => ∃ xs : List V, SqL K H a xs ∧ i = xs.length⟩
theorem turn_enumS {P : Program} {w : World} {K : PySem.W.Frag} {elts : List Expr} {kk : Nat} {tpos : Pos} {a e j : Addr} (na : a ≠ j) (ne : e ≠ j) (nea : e ≠ a) :
    Turn P w K (.Tuple elts kk tpos) (IteS K a) [e, j] e (fun i h => (∃ old, IsEnum h e j (1 + ((i : Nat) : Int)) old) ∧ h.IsListIter j a i) where
  mem := List.mem_cons_self ..
  obj := by
    rintro i h ⟨⟨old, h1⟩, ⟨o, h2, _, d2⟩⟩ c hc
    simp only [List.mem_cons, List.not_mem_nil, or_false] at hc
    rcases hc with rfl | rfl
    · exact ⟨_, h1, fun v q => nomatch q⟩
    · exact ⟨o, h2, fun v q => by rw [d2] at q; cases q⟩
  keep := by
    rintro i h h' ⟨⟨old, h1⟩, h2⟩ k
    exact ⟨⟨old, k e (by simp) _ h1⟩, h2.at fun o q => k j (by simp) o q⟩
  item := by
    intro X hP hw hK hc i pins s σ H E I hf st hg
    subst hP hw hK
    obtain ⟨⟨old, h1⟩, h2⟩ := st
    obtain ⟨xs, x, hq, hx⟩ := hg
    obtain ⟨its, rv, p, _⟩ := I.list hq
    obtain ⟨u, hu, ru⟩ := rv.get hx
    have hh : X.A.handled = none := I.ok.hd hc
    have b1 : i < its.toArray.size := by simpa using (List.getElem?_eq_some_iff.mp hu).1
    have el : e < s.heap.objs.size := Heap.lt_size h1
    have nf : e ∉ [j, a] := by simp only [List.mem_cons, List.not_mem_nil, or_false, not_or]; exact ⟨ne, nea⟩
    refine wpAny_pyNext_enum_itemC (Draws.list (A := X.A.in1) hh j a na its.toArray) h1 ⟨h2, p.isList⟩ b1 ne nf fun v g tk e1 g1 g2 gT gs gk => ?_
    have q1 : v = u := by simpa [hu] using e1.symm
    subst q1
    refine ⟨_, rfl, wpAny_letOwnedTupleGo_enum (s := { s with heap := g, toks := tk + 1 }) g1 fun g' k1 sb => ?_⟩
    have out : ∀ c, c ≠ e → g'.get? c = g.get? c := fun c n => sb.2 c n
    have nw : g'.get? s.heap.objs.size = some { cls := .type "tuple", data := .seq #[.int (1 + (i : Int)) tk, v] } := (out _ (Nat.ne_of_gt el)).trans gT
    have made : ObjOk X.prog X.w (upd H s.heap.objs.size (.tup [.int (1 + (i : Int)), x])) g' s.heap.objs.size (.tup [.int (1 + (i : Int)), x]) := ⟨by show 2 ≤ sizeLine; decide, [.int (1 + (i : Int)) tk, v], .cons ⟨_, rfl⟩ (.cons ru .nil), ⟨_, nw, rfl, _, rfl⟩⟩
    have J := I.turnedNew (t' := tk + 1) (ch := [e, j]) (fun c o n y => by
      simp only [List.mem_cons, List.not_mem_nil, or_false, not_or] at n
      exact (out c n.1).trans (gk c o n.1 n.2 y)) hf (Nat.le_refl _) made
    refine ⟨.ref s.heap.objs.size, _, J, rfl, ⟨_, x, rfl, I.hok.fresh (Nat.le_refl _), rfl, fun l hl => by rw [I.list_inj hl hq]; exact hx⟩, ⟨⟨v, ?_⟩, ?_⟩, fun c hcm => ?_⟩
    · have ei : 1 + ((i + 1 : Nat) : Int) = 1 + (i : Int) + 1 := by omega
      rw [ei]; exact k1
    · exact g2.1.at fun o q => (out _ ne.symm).trans q
    · have lt : c < s.heap.objs.size := by
        simp only [List.mem_cons, List.not_mem_nil, or_false] at hcm
        rcases hcm with q | q
        · rw [q]; exact el
        · rw [q]; obtain ⟨_, y, _⟩ := h2; exact Heap.lt_size y
      rw [upd_ne (Nat.ne_of_lt lt)]
      exact (hf c hcm).1
  done := by
    intro X hP hw hK hc i pins s σ H E I hf st hg
    subst hP hw hK
    obtain ⟨⟨old, h1⟩, h2⟩ := st
    obtain ⟨xs, hq, l1⟩ := hg
    obtain ⟨its, rv, p, _⟩ := I.list hq
    have hh : X.A.handled = none := I.ok.hd hc
    have m1 : i = its.toArray.size := by rw [List.size_toArray, ← rv.length]; exact l1
    subst m1
    obtain ⟨f0, f1, f2, f3, f4, f5⟩ := hf j (by simp)
    refine wpAny_pyNext_enum_endD (Draws.list (A := X.A.in1) hh j a na its.toArray) h1 ⟨h2, p.isList⟩ fun g eb => ⟨rfl, I.turned (t' := s.toks) (fun b o hb q => eb b o hb q) f0 f1 f3 f4 f5⟩
  self := fun A i s Q E st h => let ⟨⟨_, y⟩, _⟩ := st; wpAny_pyIter_enum y h
theorem withTyK {M : Model} {A : Around} {E : Value → Shared → Prop} {s : Shared} {pos : Pos} {T : String} {env : Env} {e : Expr} {rest : List Expr} {kws : List Keyword} {Q : Value → Shared → Prop}
    (q : wpAny M A (spliced (backTo pos (starEach (e :: rest) env))) (fun us t => wpAny M A (evalAll ((backToKw pos (keywordEach kws env)).map (·.2))) (fun ws t2 => wpAny M A (call (.type T) us (((backToKw pos (keywordEach kws env)).filterMap (·.1)).zip ws)) Q E t2) E t) E s)
    (h1 : backTo pos (starEach (e :: rest) env) = (false, eval e env) :: backTo pos (starEach rest env)) (h2 : (backTo pos (starEach (e :: rest) env)).any (·.1) = false)
    (h3 : (backToKw pos (keywordEach kws env)).all (·.1.isSome) = true) (h4 : (backToKw pos (keywordEach kws env)).any (·.1.isNone) = false) :
    wpAny M A (callWith pos (.type T) [] (backTo pos (starEach (e :: rest) env)) (backToKw pos (keywordEach kws env))) Q E s := by
  have k : wpAny M A (evalArgs (.type T) true (backTo pos (starEach (e :: rest) env)) (backToKw pos (keywordEach kws env))) (fun a t => wpAny M A (call (.type T) ([] ++ a.pos) a.kw) Q E t) E s := by
    rw [h1] at q ⊢
    exact PyProof.Rows.evalArgs_kwB h3 q
  unfold callWith
  refine wpAny_bind (wpAny_holding (wpAny_mono k (fun a t z => wpAny_bind (wpAny_standAt ?_)) fun _ _ y => y))
  simp only [h2, h4, Bool.or_self]
  refine wpAny_bind (wpAny_pure ?_)
  exact wpAny_bind (wpAny_mono z (fun r t z2 => wpAny_bind (wpAny_holding (wpAny_point (wpAny_pure z2)))) fun _ _ y => y)
def iEnumS (K : PySem.W.Frag) (ta : TA) : TI := fun σ H R => ta σ H fun vs H1 => ∃ a xs, vs = [.ref a] ∧ SqL K H1 a xs ∧ R (IteS K a) H1
theorem pi_enumS {X : Cx} {e : Expr} {es : List Expr} {kws : List Keyword} {ta tk : TA} {p pos tpos : Pos} {elts : List Expr} {kk : Nat} (hg : Gl X "enumerate") (hm : X.mg "enumerate" = none) (ha : PA X (e :: es) ta) (hk : PK X kws tk) (h1 : ∀ σ H (Q : List V → Hp → Prop), Q [.int 1] H → tk σ H Q := by exact fun _ _ _ h => h)
    (he : backTo pos (starEach (e :: es) X.env) = (false, eval e X.env) :: backTo pos (starEach es X.env) := by rfl) (hpl : (backTo pos (starEach (e :: es) X.env)).any (·.1) = false := by rfl)
    (hall : (backToKw pos (keywordEach kws X.env)).all (·.1.isSome) = true := by rfl) (hnone : (backToKw pos (keywordEach kws X.env)).any (·.1.isNone) = false := by rfl) (hks : (backToKw pos (keywordEach kws X.env)).filterMap (·.1) = [Str.ofString "start"] := by rfl) :
    PI X (.Tuple elts kk tpos) (.Call (.Name "enumerate" p) (e :: es) kws pos) (iEnumS X.K ta) := by
  refine ⟨fun pins s σ H R I h => ?_⟩
  refine wpAny_Call_Name_kw (ld_blt I hg hm boot_enumerate ?_)
  refine withTyK (thn (ha.run pos pins s σ H _ I h) fun us s1 ⟨vs, H1, J, rel, q1⟩ => thn (hk.run pos pins s1 σ H1 (fun zs H2 => zs = [.int 1] ∧ H2 = H1) J (h1 _ _ _ ⟨rfl, rfl⟩)) fun ws s2 ⟨zs, H2, J2, rel2, q2⟩ => ?_) he hpl hall hnone
  rw [hks]
  obtain ⟨rfl, rfl⟩ := q2
  obtain ⟨a, xs, ex, hx, q⟩ := q1
  subst ex
  obtain ⟨u, rfl, r1⟩ := vals1 rel
  cases r1
  obtain ⟨u2, rfl, r2⟩ := vals1 rel2
  obtain ⟨t, rfl⟩ := r2
  obtain ⟨its, _, p1, _⟩ := J2.list hx
  have la : a < s2.heap.objs.size := by obtain ⟨o, ho, _⟩ := id p1.isList; exact Heap.lt_size ho
  refine enum_begins_start (begins_list _ _) p1.isList (by decide) (by decide) fun g y1 y2 ys kp => wpAny_pyIter_enum y1 ?_
  have J3 : Inv X pins σ H2 { s2 with heap := g } := J2.kept (t' := s2.toks) kp
  refine ⟨s2.heap.objs.size + 1, [s2.heap.objs.size + 1, s2.heap.objs.size], _, _, H2, rfl, J3, turn_enumS (a := a) (e := s2.heap.objs.size + 1) (j := s2.heap.objs.size) (Nat.ne_of_lt la) (Nat.succ_ne_self _) (Nat.ne_of_gt (Nat.lt_succ_of_lt la)), ⟨⟨.none, y1⟩, ⟨_, y2, rfl, rfl⟩⟩, fun c hc => ?_, q⟩
  have le : s2.heap.objs.size ≤ c := by
    rcases List.mem_cons.mp hc with e | e
    · rw [e]; exact Nat.le_succ _
    · rw [List.mem_singleton.mp e]; exact Nat.le_refl _
  exact J2.fpOk le (J2.hok.fresh le)
theorem u64 {A : Around} {k : Nat} (r : Room k A) : A.units + 64 < cLine := by have := r.un; omega
section
variable {X : Cx}
/-! ### for x in s: a list or a tuple -/
def iSeq (K : PySem.W.Frag) (tl : TE) : TI := fun σ H R => tl σ H fun x H1 => ∃ a, x = .ref a ∧ (((∃ xs, SqL K H1 a xs) ∧ R (Itl K a) H1) ∨ ((∃ xs, SqT K H1 a xs) ∧ R (Itt K a) H1))
theorem pi_seq {tg l : Expr} {tl : TE} (hl : PE X l tl) : PI X tg l (iSeq X.K tl) := by
  refine ⟨fun pins s σ H R I h => thn (hl.run pins s σ H _ I h) fun v s1 ⟨x, H1, I1, r1, q1⟩ => ?_⟩
  obtain ⟨a, e, q⟩ := q1
  subst e
  cases r1
  have far : ∀ b ∈ [s1.heap.objs.size], FpOk X pins H1 b := fun b hb => by
    rw [List.mem_singleton.mp hb]
    exact I1.fpOk (Nat.le_refl _) (I1.hok.fresh (Nat.le_refl _))
  rcases q with ⟨⟨xs, hq⟩, q⟩ | ⟨⟨xs, hq⟩, q⟩
  · obtain ⟨its, rv, p, _⟩ := I1.list hq
    exact wpAny_pyIter_list p.isList ⟨_, [s1.heap.objs.size], _, _, H1, rfl, I1.kept (t' := s1.toks) fun b o e => Heap.get?_push_of_some _ e, turn_list a _, ⟨_, Heap.get?_push_size _ rfl, rfl, rfl⟩, far, q⟩
  · obtain ⟨its, rv, p, _⟩ := I1.tuple hq
    exact wpAny_pyIter_tuple (show s1.heap.IsTuple a its.toArray from p) ⟨_, [s1.heap.objs.size], _, _, H1, rfl, I1.kept (t' := s1.toks) fun b o e => Heap.get?_push_of_some _ e, turn_tuple a _, ⟨_, Heap.get?_push_size _ rfl, rfl, rfl⟩, far, q⟩
end
/-- the loop over it -/
theorem for_enumS {K : PySem.W.Frag} {a : Addr} {xs : List V} {g : TG} {tb : TS} {D : Ends} {σ : L2.St} {H : Hp} (Pv : Nat → L2.St → Hp → Prop) (h0 : Pv 0 σ H) (hq : ∀ i σ H, Pv i σ H → SqL K H a xs)
    (hs : ∀ (i : Nat) (x : V) (t : Addr) (σ : L2.St) (H : Hp), xs[i]? = some x → Pv i σ H → H t = none → g (.ref t) σ (upd H t (.tup [.int (1 + (i : Int)), x])) fun σ2 H2 => tb { D with nx := Pv (i + 1), ct := Pv (i + 1), bk := D.nx } σ2 H2) (hd : ∀ σ H, Pv xs.length σ H → D.nx σ H) :
    ∃ W : Nat → Nat → L2.St → Hp → Prop, (∃ m, W 0 m σ H) ∧ ∀ i m σ H, W i m σ H →
      ((IteS K a).stop i H ∧ D.nx σ H) ∨ ((IteS K a).go i H ∧ ∃ N : L2.St → Hp → Prop, (∀ σ' H', N σ' H' → ∃ m', m' < m ∧ W (i + 1) m' σ' H') ∧ ∀ v H', (IteS K a).yld i H v H' → g v σ H' fun σ2 H2 => tb { D with nx := N, ct := N, bk := D.nx } σ2 H2) := by
  refine ⟨fun i m σ H => m = xs.length - i ∧ i ≤ xs.length ∧ Pv i σ H, ⟨_, rfl, Nat.zero_le _, h0⟩, fun i m σ H w => ?_⟩
  obtain ⟨rfl, le, pv⟩ := w
  have qx := hq i σ H pv
  rcases Nat.lt_or_ge i xs.length with lt | ge
  · have ex : xs[i]? = some xs[i] := List.getElem?_eq_getElem lt
    refine .inr ⟨⟨xs, _, qx, ex⟩, Pv (i + 1), fun σ' H' p' => ⟨xs.length - (i + 1), by omega, rfl, lt, p'⟩, ?_⟩
    rintro v H' ⟨t, x, rfl, nt, rfl, kx⟩
    exact hs i x t σ H (kx xs qx) pv nt
  · have e : i = xs.length := Nat.le_antisymm le ge
    exact .inl ⟨⟨xs, qx, e⟩, hd σ H (e ▸ pv)⟩
end Kx
set_option maxHeartbeats 1000000
/-! The mathematics: data, texts, tokens. -/
namespace Kx
open PySem PySem.Spec PyProof.Rows L2
inductive PV where
  | str (z : Str)
  | int (i : Int)
  | tup (xs : List PV)
mutual
/-- how deep it is -/
def dep : PV → Nat
  | .str _ => 1
  | .int _ => 1
  | .tup ts => 1 + depL ts
def depL : List PV → Nat
  | [] => 0
  | t :: r => max (dep t) (depL r)
end
theorem dep_pos : ∀ t : PV, 1 ≤ dep t
  | .str _ => by simp [dep]
  | .int _ => by simp [dep]
  | .tup ts => by simp [dep]
theorem depL_mem : ∀ {l : List PV} {t : PV}, t ∈ l → dep t ≤ depL l
  | a :: r, t, h => by
    rcases List.mem_cons.mp h with rfl | h
    · simp only [depL]; omega
    · have := depL_mem h
      simp only [depL]; omega
theorem depL_le {l : List PV} {c : Nat} (h : ∀ t ∈ l, dep t ≤ c) : depL l ≤ c := by
  induction l with
  | nil => simp [depL]
  | cons a r ih =>
    have h1 := h a (List.mem_cons_self ..)
    have h2 := ih fun t ht => h t (List.mem_cons_of_mem _ ht)
    simp only [depL]; omega
/-! ### signs -/
def cs (z : Str) : List Nat := z.cps.toList
def mkS (l : List Nat) : Str := ⟨l.toArray⟩
theorem cs_mk (l : List Nat) : cs (mkS l) = l := by simp [cs, mkS]
theorem mk_cs (z : Str) : mkS (cs z) = z := by cases z; simp [cs, mkS]
theorem cs_inj {a b : Str} (h : cs a = cs b) : a = b := by rw [← mk_cs a, h, mk_cs]
theorem cs_app (a b : Str) : cs (a ++ b) = cs a ++ cs b := by
  show (a.cps ++ b.cps).toList = _
  simp [cs]
theorem mk_app (a b : List Nat) : mkS a ++ mkS b = mkS (a ++ b) := cs_inj (by rw [cs_app, cs_mk, cs_mk, cs_mk])
theorem cs_len (z : Str) : (cs z).length = z.length := by simp [cs, Str.length]
theorem mk_len (l : List Nat) : (mkS l).length = l.length := by rw [← cs_len, cs_mk]
abbrev isAl (c : Nat) : Bool := Unicode.isAlnum c
/-- a sign of a line -/
def okc (c : Nat) : Prop := 32 ≤ c ∧ c ≤ 126 ∧ c ≠ 37 ∧ c ≠ 35
instance (c : Nat) : Decidable (okc c) := by unfold okc; infer_instance
/-! ### texts of trees -/
def sepJ : List (List Nat) → List Nat
  | [] => []
  | [a] => a
  | a :: b :: r => a ++ 44 :: 32 :: sepJ (b :: r)
def sepT : List (List (List Nat)) → List (List Nat)
  | [] => []
  | [a] => a
  | a :: b :: r => a ++ [44] :: sepT (b :: r)
mutual
def txt : PV → List Nat
  | .str z => cs z
  | .int _ => []
  | .tup [] => []
  | .tup (.int _ :: _) => []
  | .tup (.tup _ :: _) => []
  | .tup (.str w :: r) => if r.isEmpty then cs w else cs w ++ 40 :: (sepJ (txtL r) ++ [41])
def txtL : List PV → List (List Nat)
  | [] => []
  | t :: r => txt t :: txtL r
end
theorem txtL_map : ∀ l : List PV, txtL l = l.map txt
  | [] => rfl
  | t :: r => by simp only [txtL, List.map_cons, txtL_map r]
mutual
def tokT : PV → List (List Nat)
  | .str z => [cs z]
  | .int _ => []
  | .tup [] => []
  | .tup (.int _ :: _) => []
  | .tup (.tup _ :: _) => []
  | .tup (.str w :: r) => if r.isEmpty then [cs w] else cs w :: [40] :: (sepT (tokTL r) ++ [[41]])
def tokTL : List PV → List (List (List Nat))
  | [] => []
  | t :: r => tokT t :: tokTL r
end
theorem tokTL_map : ∀ l : List PV, tokTL l = l.map tokT
  | [] => rfl
  | t :: r => by simp only [tokTL, List.map_cons, tokTL_map r]
mutual
/-- as it is read ahead of the declarations -/
def raw : PV → PV
  | .str z => .str z
  | .int i => .int i
  | .tup [] => .tup []
  | .tup (.int i :: r) => .tup (.int i :: r)
  | .tup (.tup x :: r) => .tup (.tup x :: r)
  | .tup (.str w :: r) => if r.isEmpty then .str w else .tup (.str w :: rawL r)
def rawL : List PV → List PV
  | [] => []
  | t :: r => raw t :: rawL r
end
theorem rawL_map : ∀ l : List PV, rawL l = l.map raw
  | [] => rfl
  | t :: r => by simp only [rawL, List.map_cons, rawL_map r]
mutual
/-- what the declarations make of it -/
def dcl (ws : List Str) : PV → PV
  | .str z => if z ∈ ws then .tup [.str z] else .str z
  | .int i => .int i
  | .tup [] => .tup []
  | .tup (a :: r) => .tup (a :: dclL ws r)
def dclL (ws : List Str) : List PV → List PV
  | [] => []
  | t :: r => dcl ws t :: dclL ws r
end
theorem dclL_map (ws : List Str) : ∀ l : List PV, dclL ws l = l.map (dcl ws)
  | [] => rfl
  | t :: r => by simp only [dclL, List.map_cons, dclL_map ws r]
/-- a tree as it is drawn: words alone, names, words with parts -/
def Tr (L N B : List Str) : Nat → PV → Prop
  | _, .str z => z ∈ N
  | _, .int _ => False
  | _, .tup [] => False
  | _, .tup (.int _ :: _) => False
  | _, .tup (.tup _ :: _) => False
  | 0, .tup (.str w :: r) => r = [] ∧ w ∈ L
  | n + 1, .tup (.str w :: r) => (r = [] ∧ w ∈ L) ∨ (r ≠ [] ∧ w ∈ B ∧ r.length ≤ 3 ∧ ∀ t ∈ r, Tr L N B n t)
theorem Tr.cases {L N B : List Str} : ∀ {n : Nat} {t : PV}, Tr L N B n t → (∃ z, t = .str z ∧ z ∈ N) ∨ (∃ w, t = .tup [.str w] ∧ w ∈ L) ∨ ∃ w r m, t = .tup (.str w :: r) ∧ n = m + 1 ∧ r ≠ [] ∧ w ∈ B ∧ r.length ≤ 3 ∧ ∀ t ∈ r, Tr L N B m t
  | 0, .str z, h => .inl ⟨z, rfl, h⟩
  | n + 1, .str z, h => .inl ⟨z, rfl, h⟩
  | 0, .tup (.str w :: r), h => by
    obtain ⟨rfl, h⟩ := h
    exact .inr (.inl ⟨w, rfl, h⟩)
  | n + 1, .tup (.str w :: r), h => by
    rcases h with ⟨rfl, h⟩ | ⟨h1, h2, h3, h4⟩
    · exact .inr (.inl ⟨w, rfl, h⟩)
    · exact .inr (.inr ⟨w, r, n, rfl, rfl, h1, h2, h3, h4⟩)
theorem Tr.dcl {L N B : List Str} (no : ∀ z ∈ N, z ∉ L) : ∀ {n : Nat} {t : PV}, Tr L N B n t → dcl L (raw t) = t := by
  intro n
  induction n with
  | zero =>
    intro t h
    rcases h.cases with ⟨z, rfl, hz⟩ | ⟨w, rfl, hw⟩ | ⟨w, r, m, rfl, e, _⟩
    · simp [raw, Kx.dcl, no z hz]
    · simp [raw, Kx.dcl, hw]
    · omega
  | succ n ih =>
    intro t h
    rcases h.cases with ⟨z, rfl, hz⟩ | ⟨w, rfl, hw⟩ | ⟨w, r, m, rfl, e, hr, hw, hl, ht⟩
    · simp [raw, Kx.dcl, no z hz]
    · simp [raw, Kx.dcl, hw]
    · cases e
      have e2 : r.isEmpty = false := by cases r with | nil => exact absurd rfl hr | cons _ _ => rfl
      simp only [raw, e2, Bool.false_eq_true, if_false, Kx.dcl, dclL_map, rawL_map, List.map_map]
      congr 2
      have : ∀ t ∈ r, (Kx.dcl L ∘ raw) t = t := fun t h => ih (ht t h)
      exact (List.map_congr_left (g := fun t => t) this).trans (List.map_id' r)
/-- the bound of a text of a tree -/
def Bd (a b : Nat) : Nat → Nat
  | 0 => a
  | n + 1 => max a (b + 6 + 3 * Bd a b n)
theorem sepJ_len : ∀ (l : List (List Nat)) (c : Nat), (∀ x ∈ l, x.length ≤ c) → (sepJ l).length ≤ l.length * c + 2 * (l.length - 1)
  | [], c, _ => by simp [sepJ]
  | [a], c, h => by have := h a (List.mem_cons_self ..); simp [sepJ]; omega
  | a :: b :: r, c, h => by
    have h1 := h a (List.mem_cons_self ..)
    have h2 := sepJ_len (b :: r) c fun x hx => h x (List.mem_cons_of_mem _ hx)
    simp only [sepJ, List.length_append, List.length_cons, Nat.add_mul, Nat.one_mul] at h2 ⊢
    omega
theorem Tr.len {L N B : List Str} {a b : Nat} (hL : ∀ z ∈ L, z.length ≤ a) (hN : ∀ z ∈ N, z.length ≤ a) (hB : ∀ z ∈ B, z.length ≤ b) : ∀ {n : Nat} {t : PV}, Tr L N B n t → (txt t).length ≤ Bd a b n := by
  intro n
  induction n with
  | zero =>
    intro t h
    rcases h.cases with ⟨z, rfl, hz⟩ | ⟨w, rfl, hw⟩ | ⟨w, r, m, rfl, e, _⟩
    · simp only [txt, cs_len, Bd]; exact hN z hz
    · simp only [txt, List.isEmpty_nil, if_true, cs_len, Bd]; exact hL w hw
    · omega
  | succ n ih =>
    intro t h
    rcases h.cases with ⟨z, rfl, hz⟩ | ⟨w, rfl, hw⟩ | ⟨w, r, m, rfl, e, hr, hw, hl, ht⟩
    · have := hN z hz
      simp only [txt, cs_len, Bd]; omega
    · have := hL w hw
      simp only [txt, List.isEmpty_nil, if_true, cs_len, Bd]; omega
    · cases e
      have e2 : r.isEmpty = false := by cases r with | nil => exact absurd rfl hr | cons _ _ => rfl
      have h1 := hB w hw
      have h2 := sepJ_len (txtL r) (Bd a b n) (fun x hx => by
        rw [txtL_map] at hx
        obtain ⟨t, ht', rfl⟩ := List.mem_map.mp hx
        exact ih (ht t ht'))
      have h3 : (txtL r).length = r.length := by rw [txtL_map, List.length_map]
      have h4 : r.length * Bd a b n ≤ 3 * Bd a b n := Nat.mul_le_mul_right _ hl
      rw [h3] at h2
      simp only [txt, e2, Bool.false_eq_true, if_false, List.length_append, List.length_cons, List.length_nil, cs_len, Bd]
      omega
/-! ### tokens -/
inductive Toks : List Nat → List (List Nat) → Prop
  | nil : Toks [] []
  | sp {l : List Nat} {T : List (List Nat)} (h : Toks l T) : Toks (32 :: l) T
  | word {w l : List Nat} {T : List (List Nat)} (n : w ≠ []) (a : ∀ c ∈ w, isAl c = true) (e : ∀ c r, l = c :: r → isAl c = false) (h : Toks l T) : Toks (w ++ l) (w :: T)
  | arrow {l : List Nat} {T : List (List Nat)} (h : Toks l T) : Toks (45 :: 62 :: l) ([45, 62] :: T)
  | sign {c : Nat} {l : List Nat} {T : List (List Nat)} (a : isAl c = false) (n : c ≠ 32) (m : c ≠ 45) (h : Toks l T) : Toks (c :: l) ([c] :: T)
/-- what follows doesn't go on a word -/
def Stp (l : List Nat) : Prop := ∀ c r, l = c :: r → isAl c = false
theorem stp_nil : Stp [] := fun c r e => by cases e
theorem stp_cons {c : Nat} {l : List Nat} (h : isAl c = false) : Stp (c :: l) := fun c' r e => by cases e; exact h
/-- a word of the language -/
def WdP (w : List Nat) : Prop := w ≠ [] ∧ (∀ c ∈ w, isAl c = true) ∧ ∀ c ∈ w, okc c
instance (w : List Nat) : Decidable (WdP w) := by unfold WdP; infer_instance
theorem al_40 : isAl 40 = false := by decide +kernel
theorem al_41 : isAl 41 = false := by decide +kernel
theorem al_44 : isAl 44 = false := by decide +kernel
theorem al_32 : isAl 32 = false := by decide +kernel
theorem al_45 : isAl 45 = false := by decide +kernel
theorem al_58 : isAl 58 = false := by decide +kernel
theorem al_61 : isAl 61 = false := by decide +kernel
theorem Toks.wd {w l : List Nat} {T : List (List Nat)} (h : WdP w) (s : Stp l) (t : Toks l T) : Toks (w ++ l) (w :: T) := .word h.1 h.2.1 s t
theorem Toks.op {l : List Nat} {T : List (List Nat)} (t : Toks l T) : Toks (40 :: l) ([40] :: T) := .sign al_40 (by decide) (by decide) t
theorem Toks.cl {l : List Nat} {T : List (List Nat)} (t : Toks l T) : Toks (41 :: l) ([41] :: T) := .sign al_41 (by decide) (by decide) t
theorem Toks.co {l : List Nat} {T : List (List Nat)} (t : Toks l T) : Toks (44 :: l) ([44] :: T) := .sign al_44 (by decide) (by decide) t
/-- a piece with its tokens, whatever follows -/
def Pc (x : List Nat) (T : List (List Nat)) : Prop := ∀ l U, Stp l → Toks l U → Toks (x ++ l) (T ++ U)
theorem Pc.wd {w : List Nat} (h : WdP w) : Pc w [w] := fun l U s t => t.wd h s
theorem Pc.sep : ∀ {xs : List (List Nat)} {Ts : List (List (List Nat))}, Paired Pc xs Ts → Pc (sepJ xs) (sepT Ts)
  | _, _, .nil => fun l U s t => t
  | [x], [T], .cons h .nil => h
  | x :: y :: r, T :: T2 :: Tr, .cons h (.cons h2 h3) => fun l U s t => by
    have k := Pc.sep (.cons h2 h3) l U s t
    have := h (44 :: 32 :: (sepJ (y :: r) ++ l)) ([44] :: (sepT (T2 :: Tr) ++ U)) (stp_cons al_44) (.co (.sp k))
    simpa only [sepJ, sepT, List.append_assoc, List.cons_append] using this
theorem Pc.par {x : List Nat} {T : List (List Nat)} {w : List Nat} (h : WdP w) (k : Pc x T) : Pc (w ++ 40 :: (x ++ [41])) (w :: [40] :: (T ++ [[41]])) := fun l U s t => by
  have h1 := k (41 :: l) ([41] :: U) (stp_cons al_41) t.cl
  have h2 := Toks.wd h (stp_cons al_40) h1.op
  simpa only [List.append_assoc, List.cons_append, List.nil_append] using h2
theorem Tr.pc {L N B : List Str} (hL : ∀ z ∈ L, WdP (cs z)) (hN : ∀ z ∈ N, WdP (cs z)) (hB : ∀ z ∈ B, WdP (cs z)) : ∀ {n : Nat} {t : PV}, Tr L N B n t → Pc (txt t) (tokT t) := by
  intro n
  induction n with
  | zero =>
    intro t h
    rcases h.cases with ⟨z, rfl, hz⟩ | ⟨w, rfl, hw⟩ | ⟨w, r, m, rfl, e, _⟩
    · exact Pc.wd (hN z hz)
    · exact Pc.wd (hL w hw)
    · omega
  | succ n ih =>
    intro t h
    rcases h.cases with ⟨z, rfl, hz⟩ | ⟨w, rfl, hw⟩ | ⟨w, r, m, rfl, e, hr, hw, hl, ht⟩
    · exact Pc.wd (hN z hz)
    · exact Pc.wd (hL w hw)
    · cases e
      have e2 : r.isEmpty = false := by cases r with | nil => exact absurd rfl hr | cons _ _ => rfl
      have pr : ∀ {r : List PV}, (∀ t ∈ r, Tr L N B n t) → Paired Pc (txtL r) (tokTL r) := by
        intro r
        induction r with
        | nil => intro _; exact .nil
        | cons a r ih2 => intro h; exact .cons (ih (h a (List.mem_cons_self ..))) (ih2 fun t ht => h t (List.mem_cons_of_mem _ ht))
      have := Pc.par (hB w hw) (Pc.sep (pr ht))
      simpa only [txt, tokT, e2, Bool.false_eq_true, if_false] using this
/-! ### signs of texts -/
def Ok (l : List Nat) : Prop := ∀ c ∈ l, okc c
theorem Ok.app {a b : List Nat} (h : Ok a) (k : Ok b) : Ok (a ++ b) := fun c hc => (List.mem_append.mp hc).elim (h c) (k c)
theorem Ok.cons {c : Nat} {b : List Nat} (h : okc c) (k : Ok b) : Ok (c :: b) := fun d hd => by
  rcases List.mem_cons.mp hd with rfl | hd
  · exact h
  · exact k d hd
theorem Ok.nil : Ok [] := fun c h => by cases h
theorem Ok.sep : ∀ {xs : List (List Nat)}, (∀ x ∈ xs, Ok x) → Ok (sepJ xs)
  | [], _ => .nil
  | [x], h => h x (List.mem_cons_self ..)
  | x :: y :: r, h => .app (h x (List.mem_cons_self ..)) (.cons (by decide) (.cons (by decide) (Ok.sep fun z hz => h z (List.mem_cons_of_mem _ hz))))
theorem Tr.ok {L N B : List Str} (hL : ∀ z ∈ L, WdP (cs z)) (hN : ∀ z ∈ N, WdP (cs z)) (hB : ∀ z ∈ B, WdP (cs z)) : ∀ {n : Nat} {t : PV}, Tr L N B n t → Ok (txt t) := by
  intro n
  induction n with
  | zero =>
    intro t h
    rcases h.cases with ⟨z, rfl, hz⟩ | ⟨w, rfl, hw⟩ | ⟨w, r, m, rfl, e, _⟩
    · exact (hN z hz).2.2
    · exact (hL w hw).2.2
    · omega
  | succ n ih =>
    intro t h
    rcases h.cases with ⟨z, rfl, hz⟩ | ⟨w, rfl, hw⟩ | ⟨w, r, m, rfl, e, hr, hw, hl, ht⟩
    · exact (hN z hz).2.2
    · exact (hL w hw).2.2
    · cases e
      have e2 : r.isEmpty = false := by cases r with | nil => exact absurd rfl hr | cons _ _ => rfl
      simp only [txt, e2, Bool.false_eq_true, if_false]
      refine .app (hB w hw).2.2 (.cons (by decide) (.app (.sep fun x hx => ?_) (.cons (by decide) .nil)))
      rw [txtL_map] at hx
      obtain ⟨t, ht', rfl⟩ := List.mem_map.mp hx
      exact ih (ht t ht')
/-- the open parentheses among the tokens -/
def opn (T : List (List Nat)) : Nat := T.count [40]
theorem opn_app (a b : List (List Nat)) : opn (a ++ b) = opn a + opn b := List.count_append ..
theorem opn_sep : ∀ {xs : List (List (List Nat))} {c : Nat}, (∀ x ∈ xs, opn x ≤ c) → opn (sepT xs) ≤ xs.length * c
  | [], c, _ => by simp [sepT, opn]
  | [x], c, h => by have := h x (List.mem_cons_self ..); simp [sepT]; exact this
  | x :: y :: r, c, h => by
    have h1 := h x (List.mem_cons_self ..)
    have h2 := opn_sep (xs := y :: r) (c := c) fun z hz => h z (List.mem_cons_of_mem _ hz)
    have h3 : opn ([44] :: sepT (y :: r)) = opn (sepT (y :: r)) := by simp [opn]
    simp only [sepT, opn_app, h3, List.length_cons, Nat.add_mul, Nat.one_mul] at h2 ⊢
    omega
def Od : Nat → Nat
  | 0 => 0
  | n + 1 => 1 + 3 * Od n
theorem wd_no {w : List Nat} (h : WdP w) : w ≠ [40] := fun e => by
  have := h.2.1 40 (by rw [e]; simp)
  rw [show isAl 40 = false from al_40] at this
  cases this
theorem opn_cons {w : List Nat} (h : w ≠ [40]) (T : List (List Nat)) : opn (w :: T) = opn T := by
  unfold opn
  rw [List.count_cons]
  simp [h]
theorem Tr.opn {L N B : List Str} (hL : ∀ z ∈ L, WdP (cs z)) (hN : ∀ z ∈ N, WdP (cs z)) (hB : ∀ z ∈ B, WdP (cs z)) : ∀ {n : Nat} {t : PV}, Tr L N B n t → opn (tokT t) ≤ Od n := by
  intro n
  induction n with
  | zero =>
    intro t h
    rcases h.cases with ⟨z, rfl, hz⟩ | ⟨w, rfl, hw⟩ | ⟨w, r, m, rfl, e, _⟩
    · simp only [tokT]; rw [opn_cons (wd_no (hN z hz))]; exact Nat.zero_le _
    · simp only [tokT, List.isEmpty_nil, if_true]; rw [opn_cons (wd_no (hL w hw))]; exact Nat.zero_le _
    · omega
  | succ n ih =>
    intro t h
    rcases h.cases with ⟨z, rfl, hz⟩ | ⟨w, rfl, hw⟩ | ⟨w, r, m, rfl, e, hr, hw, hl, ht⟩
    · simp only [tokT]; rw [opn_cons (wd_no (hN z hz))]; exact Nat.zero_le _
    · simp only [tokT, List.isEmpty_nil, if_true]; rw [opn_cons (wd_no (hL w hw))]; exact Nat.zero_le _
    · cases e
      have e2 : r.isEmpty = false := by cases r with | nil => exact absurd rfl hr | cons _ _ => rfl
      have h2 := opn_sep (xs := tokTL r) (c := Od n) (fun x hx => by
        rw [tokTL_map] at hx
        obtain ⟨t, ht', rfl⟩ := List.mem_map.mp hx
        exact ih (ht t ht'))
      have h3 : (tokTL r).length = r.length := by rw [tokTL_map, List.length_map]
      have h4 : r.length * Od n ≤ 3 * Od n := Nat.mul_le_mul_right _ hl
      have h5 : Kx.opn ([40] :: (sepT (tokTL r) ++ [[41]])) = 1 + Kx.opn (sepT (tokTL r)) := by
        have : Kx.opn [[41]] = 0 := by decide
        have e3 : Kx.opn ([40] :: (sepT (tokTL r) ++ [[41]])) = Kx.opn (sepT (tokTL r) ++ [[41]]) + 1 := by unfold Kx.opn; rw [List.count_cons]; rfl
        rw [e3, opn_app, this]; omega
      rw [h3] at h2
      simp only [tokT, e2, Bool.false_eq_true, if_false]
      rw [opn_cons (wd_no (hB w hw)), h5]
      simp only [Od]
      omega
theorem Tr.dep {L N B : List Str} : ∀ {n : Nat} {t : PV}, Tr L N B n t → Kx.dep t ≤ n + 2 := by
  intro n
  induction n with
  | zero =>
    intro t h
    rcases h.cases with ⟨z, rfl, hz⟩ | ⟨w, rfl, hw⟩ | ⟨w, r, m, rfl, e, _⟩
    · simp [Kx.dep]
    · simp [Kx.dep, depL]
    · omega
  | succ n ih =>
    intro t h
    rcases h.cases with ⟨z, rfl, hz⟩ | ⟨w, rfl, hw⟩ | ⟨w, r, m, rfl, e, hr, hw, hl, ht⟩
    · simp [Kx.dep]
    · simp [Kx.dep, depL]
    · cases e
      have := depL_le (l := r) (c := n + 2) fun t h => ih (ht t h)
      simp only [Kx.dep, depL]
      omega
end Kx
set_option maxHeartbeats 2000000
/-! ' ' * n -/
namespace Kx
open PySem PySem.Spec PyProof.Rows L2
def blk (n : Nat) : List Nat := List.replicate n 32
def rMulB : R2 := fun x y H Q => ∃ n : Nat, x = .str " " ∧ y = .int n ∧ n ≤ 100 ∧ Q (.str (mkS (blk n))) H
theorem fold_app (a : Array Nat) : ∀ (n : Nat) (acc : Array Nat), (List.foldl (fun x y => x ++ y) acc (List.replicate n a)).toList = acc.toList ++ (List.replicate n a.toList).flatten
  | 0, acc => by simp
  | n + 1, acc => by
    rw [List.replicate_succ, List.foldl_cons, fold_app a n, Array.toList_append, List.replicate_succ, List.flatten_cons, List.append_assoc]
theorem blk_eq (n : Nat) : (⟨List.foldl (fun x y => x ++ y) #[] (List.replicate n (" " : Str).cps)⟩ : Str) = mkS (blk n) := cs_inj (by
  rw [cs_mk]
  show (List.foldl (fun x y => x ++ y) #[] (List.replicate n (" " : Str).cps)).toList = _
  rw [fold_app]
  show [] ++ (List.replicate n [32]).flatten = blk n
  rw [List.nil_append]
  induction n with
  | zero => rfl
  | succ n ih => rw [List.replicate_succ, List.flatten_cons, ih]; rfl)
theorem op_mulB {X : Cx} : OpR X (binaryOp .Mult) rMulB := by
  intro pins s σ H x y v u Q I rx ry h
  obtain ⟨n, rfl, rfl, h100, q⟩ := h
  obtain ⟨t, rfl⟩ := (show ∃ t, v = Value.str " " t from rx)
  obtain ⟨t2, rfl⟩ := (show ∃ t, u = Value.int n t from ry)
  refine wpAny_binaryOp_repeat (T := "str") (U := "int") (by decide) (fun s' => typeIs_str s' " " t) (fun s' => typeIs_int s' _ t2) noFill_str_mul F.fills_int_mul F.slot_int_rmul repeat_str F.slot_int_index.lookup
    (call_gives F.slot_int_rmul (typeIs_int s _ t2) F.entry_int_rmul (F.args_int_rmul_2 _ _) (AutoIntG1.int___rmul___int_str_0 _ t2 " " t) ⟨rfl, ?_⟩)
  refine call_gives F.slot_str_mul (typeIs_str s " " t) F.entry_str_mul (F.args_str_mul_2 _ _) (gives_str_mul " " n t t2 ?_ ?_ ?_) ?_
  · have h1 : decide ((n : Int) < -2 ^ 63) = false := decide_eq_false (by omega)
    have h3 : decide ((n : Int) ≥ 2 ^ 63) = false := decide_eq_false (by omega)
    rw [h1, h3]; rfl
  · intro hh _
    have hn : 1 ≤ n := by omega
    have : (1 : Int) ≤ (2 ^ 63 - 1) / (n : Int) := by
      apply (Int.le_ediv_iff_mul_le (by omega)).mpr
      omega
    show ¬ (1 : Int) > (2 ^ 63 - 1) / (n : Int)
    omega
  · intro _ _
    show decide (1 * ((n : Int)).toNat > sizeLine) = false
    exact decide_eq_false (by rw [sizeLine_eq]; omega)
  · by_cases c1 : (n : Int) < 1
    · rw [if_pos c1]
      have : n = 0 := by omega
      subst this
      exact ⟨by show 0 ≤ sizeLine; exact Nat.zero_le _, .str (mkS (blk 0)), H, Inv.tok I _, ⟨_, rfl⟩, q⟩
    · rw [if_neg c1]
      by_cases c2 : (((n : Int) == 1) || ((" " : Str).length == 0)) = true
      · rw [if_pos c2]
        have h2 : (n : Int) = 1 := by
          have e : ((" " : Str).length == 0) = false := rfl
          rw [e, Bool.or_false] at c2
          simpa using c2
        have : n = 1 := by omega
        subst this
        exact ⟨.str (mkS (blk 1)), H, Inv.tok I _, ⟨_, rfl⟩, q⟩
      · rw [if_neg c2, Int.toNat_natCast, blk_eq]
        refine ⟨?_, .str (mkS (blk n)), H, Inv.tok I _, ⟨_, rfl⟩, q⟩
        show (mkS (blk n)).length ≤ sizeLine
        rw [mk_len, blk, List.length_replicate, sizeLine_eq]; omega
end Kx
/-! The heap: what stands for a tree; the promises of the defs. -/
namespace Kx
open PySem PySem.Spec PyProof.Rows L2
/-- all its signs are signs -/
abbrev sok (z : Str) : Bool := PyData.strOk z
mutual
/-- the value v stands for the tree -/
inductive Is (H : Hp) : V → PV → Prop
  | str (z : Str) (ok : sok z = true) : Is H (.str z) (.str z)
  | int (i : Int) : Is H (.int i) (.int i)
  | tup {a : Addr} {vs : List V} {ts : List PV} (e : H a = some (.tup vs)) (h : IsL H vs ts) : Is H (.ref a) (.tup ts)
inductive IsL (H : Hp) : List V → List PV → Prop
  | nil : IsL H [] []
  | cons {v : V} {vs : List V} {t : PV} {ts : List PV} (h : Is H v t) (r : IsL H vs ts) : IsL H (v :: vs) (t :: ts)
end
/-- all tuples stand -/
def Tk (H H' : Hp) : Prop := ∀ a vs, H a = some (.tup vs) → H' a = some (.tup vs)
theorem Tk.of {H H' : Hp} (s : Same H H') : Tk H H' := fun a vs e => s _ _ e
theorem Tk.refl (H : Hp) : Tk H H := fun _ _ e => e
theorem Tk.trans {H H1 H2 : Hp} (x : Tk H H1) (y : Tk H1 H2) : Tk H H2 := fun a vs e => y _ _ (x _ _ e)
mutual
theorem Is.tk {H H' : Hp} (x : Tk H H') : ∀ {v : V} {t : PV}, Is H v t → Is H' v t
  | _, _, .str z k => .str z k
  | _, _, .int i => .int i
  | _, _, .tup e h => .tup (x _ _ e) (IsL.tk x h)
theorem IsL.tk {H H' : Hp} (x : Tk H H') : ∀ {v : List V} {t : List PV}, IsL H v t → IsL H' v t
  | _, _, .nil => .nil
  | _, _, .cons h r => .cons (Is.tk x h) (IsL.tk x r)
end
theorem Is.same {H H' : Hp} (x : Same H H') {v : V} {t : PV} (h : Is H v t) : Is H' v t := h.tk (.of x)
theorem IsL.same {H H' : Hp} (x : Same H H') {v : List V} {t : List PV} (h : IsL H v t) : IsL H' v t := h.tk (.of x)
theorem same_upd {H : Hp} {p : Addr} (h : H p = none) (o : HO) : Same H (upd H p o) := fun b u e => by rw [upd_ne (ne_of_none e h)]; exact e
theorem IsL.len {H : Hp} : ∀ {v : List V} {t : List PV}, IsL H v t → v.length = t.length
  | _, _, .nil => rfl
  | _, _, .cons _ r => by simp [IsL.len r]
theorem IsL.get {H : Hp} : ∀ {v : List V} {t : List PV}, IsL H v t → ∀ {i : Nat} {x : V}, v[i]? = some x → ∃ y, t[i]? = some y ∧ Is H x y
  | _, _, .nil, i, x, h => by simp at h
  | _, _, .cons h r, 0, x, e => by cases (Option.some.inj e); exact ⟨_, rfl, h⟩
  | _, _, .cons h r, i + 1, x, e => IsL.get r (by simpa using e)
theorem IsL.append {H : Hp} : ∀ {v : List V} {t : List PV} {v' : List V} {t' : List PV}, IsL H v t → IsL H v' t' → IsL H (v ++ v') (t ++ t')
  | _, _, _, _, .nil, h => h
  | _, _, _, _, .cons a r, h => .cons a (r.append h)
theorem IsL.take {H : Hp} : ∀ (n : Nat) {v : List V} {t : List PV}, IsL H v t → IsL H (v.take n) (t.take n)
  | 0, _, _, _ => .nil
  | n + 1, _, _, .nil => .nil
  | n + 1, _, _, .cons a r => .cons a (r.take n)
theorem IsL.drop {H : Hp} : ∀ (n : Nat) {v : List V} {t : List PV}, IsL H v t → IsL H (v.drop n) (t.drop n)
  | 0, _, _, h => h
  | n + 1, _, _, .nil => .nil
  | n + 1, _, _, .cons a r => r.drop n
theorem IsL.reverse {H : Hp} : ∀ {v : List V} {t : List PV}, IsL H v t → IsL H v.reverse t.reverse
  | _, _, .nil => .nil
  | _, _, .cons a r => by simp only [List.reverse_cons]; exact r.reverse.append (.cons a .nil)
theorem IsL.snoc_inv {H : Hp} {v : List V} {t : List PV} {x : V} (h : IsL H v t) (e : v[v.length - 1]? = some x) (hn : v ≠ []) : ∃ ts y, t = ts ++ [y] ∧ Is H x y ∧ IsL H v.dropLast ts := by
  have hl := h.len
  have hv : 0 < v.length := by cases v with | nil => exact absurd rfl hn | cons _ _ => simp
  obtain ⟨y, e2, hy⟩ := h.get e
  refine ⟨t.take (t.length - 1), y, ?_, hy, ?_⟩
  · have : t.length - 1 < t.length := by omega
    have e3 : t[t.length - 1]'this = y := by
      rw [hl, List.getElem?_eq_getElem this] at e2
      exact Option.some.inj e2
    have h2 := List.take_append_drop (t.length - 1) t
    have h3 : t.drop (t.length - 1) = [y] := by
      rw [List.drop_eq_getElem_cons this, e3, List.drop_eq_nil_of_le (by omega)]
    rw [h3] at h2
    exact h2.symm
  · rw [List.dropLast_eq_take, hl]
    exact h.take _
theorem Is.str_inv {H : Hp} {v : V} {z : Str} (h : Is H v (.str z)) : v = .str z := by cases h; rfl
theorem Is.tup_inv {H : Hp} {v : V} {ts : List PV} (h : Is H v (.tup ts)) : ∃ a vs, v = .ref a ∧ H a = some (.tup vs) ∧ IsL H vs ts := by
  cases h with
  | tup e h => exact ⟨_, _, rfl, e, h⟩
/-! ### isinstance -/
def tyOf : PV → Value → Prop := fun t u => match t with
  | .str _ => u = .type "str"
  | .tup _ => u = .type "tuple"
  | .int _ => u = .type "int"
theorem Is.ty {K : PySem.W.Frag} {H : Hp} {v : V} {t : PV} (h : Is H v t) : ∃ u, TyX K H v u ∧ tyOf t u := by
  cases h with
  | str z _ => exact ⟨_, .base (.str z), rfl⟩
  | int i => exact ⟨_, .base (.int i), rfl⟩
  | tup e h => exact ⟨_, .base (.tup e), rfl⟩
def isStr : PV → Bool
  | .str _ => true
  | _ => false
def isTup : PV → Bool
  | .tup _ => true
  | _ => false
theorem kit_str {K : PySem.W.Frag} {t : PV} {u : Value} (h : tyOf t u) : PySem.W.kitOne K u (.type "str") = some (isStr t) := by
  cases t with
  | str z => cases h; exact kit_ty (show kitB "str" "str" = some true by decide +kernel)
  | tup ts => cases h; exact kit_ty (show kitB "tuple" "str" = some false by decide +kernel)
  | int i => cases h; exact kit_ty (show kitB "int" "str" = some false by decide +kernel)
theorem kit_tup {K : PySem.W.Frag} {t : PV} {u : Value} (h : tyOf t u) : PySem.W.kitOne K u (.type "tuple") = some (isTup t) := by
  cases t with
  | str z => cases h; exact kit_ty (show kitB "str" "tuple" = some false by decide +kernel)
  | tup ts => cases h; exact kit_ty (show kitB "tuple" "tuple" = some true by decide +kernel)
  | int i => cases h; exact kit_ty (show kitB "int" "tuple" = some false by decide +kernel)
/-- what isinstance asks of such a value -/
theorem isi_str {K : PySem.W.Frag} {H : Hp} {v : V} {t : PV} {Q : VK} (h : Is H v t) (q : Q (.bl (isStr t)) H) : rIsi K [v, .ty "str"] H Q := by
  obtain ⟨u, a, b⟩ := h.ty (K := K)
  exact ⟨_, _, u, _, _, rfl, .ty _, a, kit_str b, q⟩
theorem isi_tup {K : PySem.W.Frag} {H : Hp} {v : V} {t : PV} {Q : VK} (h : Is H v t) (q : Q (.bl (isTup t)) H) : rIsi K [v, .ty "tuple"] H Q := by
  obtain ⟨u, a, b⟩ := h.ty (K := K)
  exact ⟨_, _, u, _, _, rfl, .ty _, a, kit_tup b, q⟩
theorem Paired.imp {α β : Type} {F G : α → β → Prop} : ∀ {l : List α} {m : List β}, Paired F l m → (∀ a b, F a b → G a b) → Paired G l m
  | _, _, .nil, _ => .nil
  | _, _, .cons h t, f => .cons (f _ _ h) (Paired.imp t f)
theorem Same.own {l : Addr} {H H1 : Hp} (x : Same H H1) (hl : H l = none) (o : HO) : Same H (upd H1 l o) := fun b u h => by rw [upd_ne (ne_of_none h hl)]; exact x b u h
end Kx
namespace Kx
open PySem PySem.Spec PyProof.Rows L2
section
variable {P : Program} {w : World} {K : PySem.W.Frag} {mg : Str → Option Value} {base : Heap}
/-- all but the lists at d and c stands; those are lists still -/
structure Ex (d c : Addr) (H H' : Hp) : Prop where
  but : ∀ b o, b ≠ d → b ≠ c → H b = some o → H' b = some o
  l1 : (∃ xs, H d = some (.lst xs)) → ∃ xs, H' d = some (.lst xs)
  l2 : (∃ xs, H c = some (.lst xs)) → ∃ xs, H' c = some (.lst xs)
theorem Ex.refl (d c : Addr) (H : Hp) : Ex d c H H := ⟨fun _ _ _ _ h => h, id, id⟩
theorem Ex.trans {d c : Addr} {H H1 H2 : Hp} (a : Ex d c H H1) (b : Ex d c H1 H2) : Ex d c H H2 := ⟨fun x o n1 n2 h => b.but x o n1 n2 (a.but x o n1 n2 h), fun h => b.l1 (a.l1 h), fun h => b.l2 (a.l2 h)⟩
theorem Ex.of {d c : Addr} {H H' : Hp} (s : Same H H') : Ex d c H H' := ⟨fun b o _ _ h => s b o h, fun ⟨xs, h⟩ => ⟨xs, s _ _ h⟩, fun ⟨xs, h⟩ => ⟨xs, s _ _ h⟩⟩
theorem Ex.set1 {d c : Addr} {H : Hp} (xs : List V) : Ex d c H (upd H d (.lst xs)) := ⟨fun b o n _ h => by rw [upd_ne n]; exact h, fun _ => ⟨xs, upd_same⟩, fun ⟨ys, h⟩ => by
  by_cases q : c = d
  · subst q; exact ⟨xs, upd_same⟩
  · exact ⟨ys, by rw [upd_ne q]; exact h⟩⟩
theorem Ex.set2 {d c : Addr} {H : Hp} (xs : List V) : Ex d c H (upd H c (.lst xs)) := ⟨fun b o _ n h => by rw [upd_ne n]; exact h, fun ⟨ys, h⟩ => (by
  by_cases q : d = c
  · subst q; exact ⟨xs, upd_same⟩
  · exact ⟨ys, by rw [upd_ne q]; exact h⟩), fun _ => ⟨xs, upd_same⟩⟩
theorem Ex.own {d c l : Addr} {H H1 : Hp} (x : Ex d c H H1) (hl : H l = none) (o : HO) : Ex d c H (upd H1 l o) :=
  ⟨fun b u n n2 h => by rw [upd_ne (ne_of_none h hl)]; exact x.but b u n n2 h, fun ⟨xs, e⟩ => by rw [upd_ne (ne_of_none e hl)]; exact x.l1 ⟨xs, e⟩, fun ⟨xs, e⟩ => by rw [upd_ne (ne_of_none e hl)]; exact x.l2 ⟨xs, e⟩⟩
/-- the state of the draws: a list of the cells and the seed -/
def Dr (H : Hp) (d c : Addr) : Prop := ∃ (ns : List Int) (m : Int), H d = some (.lst [.ref c, .int m]) ∧ H c = some (.lst (ns.map V.int)) ∧ c ≠ d ∧ (∀ n ∈ ns, 0 ≤ n) ∧ 0 ≤ m ∧ m < 2147483648 ∧ ns.length ≤ 63
theorem Dr.lst {H : Hp} {d c : Addr} (h : Dr H d c) : (∃ xs, H d = some (.lst xs)) ∧ ∃ xs, H c = some (.lst xs) := by
  obtain ⟨ns, m, e, e2, _⟩ := h
  exact ⟨⟨_, e⟩, _, e2⟩
theorem Dr.same {H H' : Hp} {d c : Addr} (s : Same H H') (h : Dr H d c) : Dr H' d c := by
  obtain ⟨ns, m, e, e2, r⟩ := h
  exact ⟨ns, m, s _ _ e, s _ _ e2, r⟩
theorem Dr.own {H : Hp} {d c l : Addr} {o : HO} (h : Dr H d c) (n1 : l ≠ d) (n2 : l ≠ c) : Dr (upd H l o) d c := by
  obtain ⟨ns, m, e, e2, r⟩ := h
  exact ⟨ns, m, by rw [upd_ne n1.symm]; exact e, by rw [upd_ne n2.symm]; exact e2, r⟩
theorem Dr.free {H : Hp} {d c l : Addr} (h : Dr H d c) (n : H l = none) : l ≠ d ∧ l ≠ c := by
  obtain ⟨ns, m, e, e2, r⟩ := h
  exact ⟨(ne_of_none e n).symm, (ne_of_none e2 n).symm⟩
/-- what is no list stands -/
theorem Ex.keep {d c b : Addr} {H H' : Hp} {o : HO} (x : Ex d c H H') (h : Dr H d c) (e : H b = some o) (n : ∀ xs, o ≠ .lst xs) : H' b = some o := by
  obtain ⟨⟨xs, h1⟩, ys, h2⟩ := h.lst
  refine x.but b o (fun q => ?_) (fun q => ?_) e
  · subst q; rw [h1] at e; exact n xs (Option.some.inj e).symm
  · subst q; rw [h2] at e; exact n ys (Option.some.inj e).symm
theorem Ex.tk {d c : Addr} {H H' : Hp} (x : Ex d c H H') (h : Dr H d c) : Tk H H' := fun a vs e => x.keep h e fun xs q => by cases q
theorem Is.ex {d c : Addr} {H H' : Hp} (x : Ex d c H H') (h : Dr H d c) {v : V} {t : PV} (i : Is H v t) : Is H' v t := i.tk (x.tk h)
theorem IsL.ex {d c : Addr} {H H' : Hp} (x : Ex d c H H') (h : Dr H d c) {v : List V} {t : List PV} (i : IsL H v t) : IsL H' v t := i.tk (x.tk h)
def spState (K : PySem.W.Frag) : Sp := fun vs H Q _ => ∃ (a : Addr) (ns : List Int), vs = [.ref a] ∧ SqL K H a (ns.map V.int) ∧ ns.length ≤ 63 ∧ ∀ d c H', Same H H' → Dr H' d c → Q (.ref d) H'
def spDraw : Sp := fun vs H Q _ => ∃ (d c : Addr) (n : Int), vs = [.ref d, .int n] ∧ Dr H d c ∧ 1 ≤ n ∧ n ≤ 1000 ∧ ∀ (r : Int) H', 0 ≤ r → r < n → Ex d c H H' → Dr H' d c → Q (.int r) H'
def spPick (K : PySem.W.Frag) : Sp := fun vs H Q _ => ∃ (d c p : Addr) (xs : List V), vs = [.ref d, .ref p] ∧ Dr H d c ∧ (H p = some (.lst xs) ∨ SqT K H p xs) ∧ p ≠ d ∧ p ≠ c ∧ 1 ≤ xs.length ∧ xs.length ≤ 1000 ∧ ∀ (x : V) H', x ∈ xs → Ex d c H H' → Dr H' d c → Q x H'
theorem fmb (a : Int) {b : Int} (hb : 0 < b) : 0 ≤ a.fmod b ∧ a.fmod b < b := ⟨Int.fmod_nonneg_of_pos a hb, Int.fmod_lt_of_pos a hb⟩
theorem at_int {ns : List Int} {i : Int} (h0 : 0 ≤ i) (h : i < ns.length) : ∃ x : Int, atI (ns.map V.int) i = some (.int x) := by
  have hk : i.toNat < ns.length := by omega
  have q : atI (ns.map V.int) ((i.toNat : Nat) : Int) = some (.int ns[i.toNat]) := atI_nat (by rw [List.getElem?_map, List.getElem?_eq_getElem hk] <;> rfl)
  rw [show ((i.toNat : Nat) : Int) = i by omega] at q
  exact ⟨_, q⟩
theorem ok_law_state (T : Txt K mg)  : FnOk P w K mg base CX0 1 T.a_law_state T.d_law_state ["script"] (spState K) := by
  refine T.F_law_state.ok sc_law_state (fun vs H Q E h => ?_) (fun cdv A outer s H vs Q E hr h => ?_)
  · obtain ⟨a, ns, rfl, _⟩ := h; rfl
  · obtain ⟨a, ns, rfl, hS, hl, q⟩ := h
    refine ⟨_, (pss_cons (ps_set (i := 1) sc_law_state.nd rfl (Or.inl rfl) pe_int)
    (pss_cons (ps_for PassesOwn.never rfl (pi_list (pv 0)) (pg_name (i := 2) sc_law_state.nd rfl (Or.inl rfl))
    (pss_one (ps_set (i := 1) sc_law_state.nd rfl (Or.inl rfl) (pe_op op_modN (pe_callTy call_int1 (by rfl) T.z_int (by decide +kernel) (pa_cons (pe_op op_add (pe_op op_mul (pv 1) pe_int) (pv 2)) pa_nil)) pe_int))))
    (pss_one (ps_ret (pe_lst (pa_cons (pe_lc (own := [("cell", 2)]) (g := (gName 2)) (tt := tYes) rfl sc_law_state.nd (pi_list (pv 0)) (blkOk_by (own := [("cell", 2)]) (N := ["script", "seed", "cell"]) (sc := defScope s_law_state) (by decide +kernel)) (fun _ _ _ _ _ => (pg_name (i := 2) sc_law_state.nd rfl (Or.inl rfl))) (fun _ _ _ _ _ => pts_nil) (fun _ _ _ _ _ => (pe_callB call_abs (by rfl) T.z_abs (by decide +kernel) (pa_cons (pv 2) pa_nil)))) (pa_cons (pe_op op_add (pv 1) pe_int) pa_nil))))))), ?_⟩
    refine ⟨_, rfl, a, rfl, ⟨_, hS⟩, for_list (K := K) (a := a) (xs := ns.map V.int) (fun i σ H2 => ∃ m y, σ = [some (.ref a), some (.int m), y] ∧ H2 = H ∧ 0 ≤ m ∧ m < 1000003) ⟨7, none, rfl, rfl, by omega, by omega⟩ (fun i σ H2 _ ⟨_, _, _, e, _⟩ => by rw [e]; exact hS) ?_ ?_⟩
    · rintro i x σ H2 hx ⟨m, y, rfl, rfl, m0, m1⟩
      obtain ⟨n, _, rfl⟩ := List.mem_map.mp (List.mem_of_getElem? hx)
      obtain ⟨b0, b1⟩ := fmb (m * 31 + n) (b := 1000003) (by decide)
      exact ⟨_, rfl, _, _, rfl, rfl, .inl ⟨by omega, by omega⟩, _, rfl, _, _, rfl, rfl, .inl ⟨_, rfl, _, _, rfl, rfl, (by show (1000003 : Int) ≠ 0; decide), _, _, rfl, rfl, b0, b1⟩⟩
    · rintro σ H2 ⟨m, y, rfl, rfl, m0, m1⟩
      refine ⟨_, rfl, a, rfl, ⟨_, hS⟩, fun D hD => ?_⟩
      refine lc_list (K := K) (a := a) (xs := ns.map V.int) (fun i H3 => ∃ ms : List Int, H3 = upd H2 D (.lst (ms.map V.int)) ∧ ms.length = i ∧ ∀ n ∈ ms, 0 ≤ n) ⟨[], rfl, rfl, fun _ h => by cases h⟩ (fun i H3 _ ⟨ms, e, _⟩ => ?_) ?_ ?_
      · rw [e]; exact (same_upd hD _).seq hS
      · rintro i x H3 hx ⟨ms, rfl, hlen, hpos⟩
        have hi := (List.getElem?_eq_some_iff.mp hx).1
        rw [List.length_map] at hi
        obtain ⟨n, _, rfl⟩ := List.mem_map.mp (List.mem_of_getElem? hx)
        refine ⟨rfl, yes_if ⟨_, rfl, _, rfl, ms.map V.int, upd_same, ?_, ms ++ [if n < 0 then -n else n], ?_, ?_, ?_⟩⟩
        · rw [List.length_map]; exact small1000 (by omega)
        · rw [upd_upd, List.map_append]; rfl
        · rw [List.length_append, hlen]; rfl
        · intro z hz
          rcases List.mem_append.mp hz with hz | hz
          · exact hpos z hz
          · rw [List.mem_singleton.mp hz]; split <;> omega
      · rintro H3 ⟨ms, rfl, hlen, hpos⟩
        rw [List.length_map] at hlen
        refine ⟨_, rfl, _, _, rfl, rfl, (by show 2 ≤ sizeLine; decide), fun d hd => ?_⟩
        have n1 : D ≠ d := ne_of_none upd_same hd
        exact q d D _ ((same_upd hD _).trans (same_upd hd _)) ⟨ms, m + 1, upd_same, by rw [upd_ne n1, upd_same], n1, hpos, by omega, by omega, by omega⟩
theorem ok_law_draw (T : Txt K mg)  : FnOk P w K mg base CX0 1 T.a_law_draw T.d_law_draw ["state", "many"] spDraw := by
  refine T.F_law_draw.ok sc_law_draw (fun vs H Q E h => ?_) (fun cdv A outer s H vs Q E hr h => ?_)
  · obtain ⟨d, c, n, rfl, _⟩ := h; rfl
  · obtain ⟨d, c, n, rfl, hD, h1, h2, q⟩ := h
    have nz : n ≠ 0 := by omega
    refine ⟨_, (pss_cons (ps_set (i := 2) sc_law_draw.nd rfl (Or.inl rfl) (pe_ix ix_list (pv 0) pe_int (fun _ _ => rfl)))
    (Evl.pss_cut (ps_while PassesOwn.never (PW.pt (pw_and (pt_cmpR op_gt (pe_callB call_len_seq (by rfl) T.z_len (by decide +kernel) (pa_cons (pv 2) pa_nil)) pe_int (nomark _)) (pw_and1 (pt_cmpR op_eq (pe_ix ix_list (pv 2) pe_int (fun _ _ => rfl)) pe_int (nomark _)))))
    (pss_one (ps_expr (pe_bm PySem.F.plainAttrs_list PySem.F.slot_list_pop PySem.F.type_list_pop mt_popAt (pv 2) (pa_cons pe_int pa_nil)))))
    (pss_cons (ps_if (pt_cmpR op_gt (pe_callB call_len_seq (by rfl) T.z_len (by decide +kernel) (pa_cons (pv 2) pa_nil)) pe_int (nomark _)) (pss_cons (ps_set (i := 3) sc_law_draw.nd rfl (Or.inl rfl) (pe_ix ix_list (pv 2) pe_int (fun _ _ => rfl)))
    (pss_cons (ps_asg (pe_op op_fdivN (pv 3) (pv 1)) (pg_sub (pv 2) pe_int set_list))
    (pss_one (ps_ret (pe_op op_modN (pe_callTy call_int1 (by rfl) T.z_int (by decide +kernel) (pa_cons (pv 3) pa_nil)) (pv 1)))))) pss_nil)
    (pss_cons (ps_set (i := 4) sc_law_draw.nd rfl (Or.inl rfl) (pe_op op_modN (pe_callTy call_int1 (by rfl) T.z_int (by decide +kernel) (pa_cons (pe_op op_add (pe_op op_mul (pe_ix ix_list (pv 0) pe_int (fun _ _ => rfl)) pe_int) pe_int) pa_nil)) pe_int))
    (pss_cons (ps_asg (pv 4) (pg_sub (pv 0) pe_int set_list))
    (pss_one (ps_ret (pe_op op_modN (pe_callTy call_int1 (by rfl) T.z_int (by decide +kernel) (pa_cons (pe_op op_fdivN (pv 4) pe_int) pa_nil)) (pv 1))))))))), ?_⟩
    obtain ⟨ns, m, e, e2, hn, hpos, m0, m1, hl⟩ := id hD
    refine ⟨_, rfl, d, _, _, _, rfl, rfl, SqL.of e, rfl, ?_⟩
    refine ⟨fun σ H2 => ∃ ms : List Int, σ = [some (.ref d), some (.int n), some (.ref c), none, none] ∧ H2 d = some (.lst [.ref c, .int m]) ∧ H2 c = some (.lst (ms.map V.int)) ∧ ms.length ≤ 63 ∧ (∀ z ∈ ms, 0 ≤ z) ∧ Ex d c H H2, ?_, ?_⟩
    · refine ⟨fun k σ H2 => ∃ ms : List Int, σ = [some (.ref d), some (.int n), some (.ref c), none, none] ∧ H2 d = some (.lst [.ref c, .int m]) ∧ H2 c = some (.lst (ms.map V.int)) ∧ ms.length = k ∧ k ≤ 63 ∧ (∀ z ∈ ms, 0 ≤ z) ∧ Ex d c H H2, ⟨ns.length, ns, rfl, e, e2, rfl, hl, hpos, .refl _ _ _⟩, ?_⟩
      rintro k σ H2 ⟨ms, rfl, f1, f2, hk, k63, hp, hx⟩
      refine ⟨_, rfl, c, _, rfl, .inl (SqL.of f2), _, _, rfl, rfl, _, rfl, ite2 (fun cz => ?_) (fun _ => iteF ⟨ms, rfl, f1, f2, by omega, hp, hx⟩)⟩
      cases ms with
      | nil => cases cz
      | cons x ms =>
      refine ⟨_, rfl, c, _, _, V.int x, rfl, rfl, SqL.of f2, atI_nat (j := 0) rfl, rfl, _, rfl, ite2 (fun c0 => ?_) (fun _ => ⟨_, rfl, f1, f2, by omega, hp, hx⟩)⟩
      refine ⟨fun σ' H' => ∃ ms' : List Int, σ' = [some (.ref d), some (.int n), some (.ref c), none, none] ∧ H' d = some (.lst [.ref c, .int m]) ∧ H' c = some (.lst (ms'.map V.int)) ∧ ms'.length < k ∧ k ≤ 63 ∧ (∀ z ∈ ms', 0 ≤ z) ∧ Ex d c H H', fun σ' H' ⟨ms', r1, r2, r3, r4, r5, r6, r7⟩ => ⟨ms'.length, r4, ms', r1, r2, r3, rfl, by omega, r6, r7⟩, ?_⟩
      have z0 : ixN ((x :: ms).map V.int).length 0 = some 0 := Evl.ixN_nat (j := 0) (by rw [List.length_map, List.length_cons]; omega)
      refine ⟨_, rfl, .inl ⟨rfl, _, SqL.of f2⟩, c, _, 0, 0, _, rfl, rfl, f2, by decide, by decide, (ixN_seq z0).1, rfl, ms, rfl, by rw [upd_ne hn.symm]; exact f1, by rw [upd_same]; rfl, by rw [List.length_cons] at hk; omega, k63, fun z hz => hp z (List.mem_cons_of_mem _ hz), hx.trans (.set2 _)⟩
    · rintro σ H2 ⟨ms, rfl, f1, f2, k63, hp, hx⟩
      refine ⟨_, rfl, c, _, rfl, .inl (SqL.of f2), _, _, rfl, rfl, _, rfl, ite2 (fun cz => ?_) (fun _ => ?_)⟩
      · cases ms with
        | nil => cases cz
        | cons x ms =>
        have x0 := hp x (List.mem_cons_self ..)
        have z0 : ixN ((x :: ms).map V.int).length 0 = some 0 := Evl.ixN_nat (j := 0) (by rw [List.length_map, List.length_cons]; omega)
        refine ⟨_, rfl, c, _, _, V.int x, rfl, rfl, SqL.of f2, atI_nat (j := 0) rfl, _, rfl, _, rfl, _, _, rfl, rfl, ⟨nz, by omega⟩, _, rfl, c, _, _, 0, rfl, rfl, f2, z0, _, rfl, .inl ⟨_, rfl, _, rfl, _, _, rfl, rfl, nz, ?_⟩⟩
        obtain ⟨b0, b1⟩ := fmb x (b := n) (by omega)
        refine q _ _ b0 b1 (hx.trans (.set2 _)) ⟨x.fdiv n :: ms, m, by rw [upd_ne hn.symm]; exact f1, upd_same, hn, fun z hz => ?_, m0, m1, k63⟩
        rcases List.mem_cons.mp hz with rfl | hz
        · exact Int.fdiv_nonneg x0 (by omega)
        · exact hp z (List.mem_cons_of_mem _ hz)
      · obtain ⟨b0, b1⟩ := fmb (m * 48271 + 12345) (b := 2147483647) (by decide)
        refine ⟨_, rfl, d, _, _, _, rfl, rfl, SqL.of f1, rfl, _, _, rfl, rfl, .inl ⟨by omega, by omega⟩, _, _, rfl, rfl, .inl ⟨_, rfl, _, _, rfl, rfl, (by show (2147483647 : Int) ≠ 0; decide), _, rfl, _, rfl, d, _, _, 1, rfl, rfl, f1, rfl, ?_⟩⟩
        refine ⟨_, rfl, _, _, rfl, rfl, ⟨by decide, by decide⟩, .inl ⟨_, rfl, _, rfl, _, _, rfl, rfl, nz, ?_⟩⟩
        obtain ⟨c0, c1⟩ := fmb (((m * 48271 + 12345).fmod 2147483647).fdiv 64) (b := n) (by omega)
        exact q _ _ c0 c1 (hx.trans (.set1 _)) ⟨ms, _, upd_same, by rw [upd_ne hn]; exact f2, hn, hp, b0, by omega, k63⟩
theorem ok_law_pick (T : Txt K mg) (G_law_draw : FnOk P w K mg base CX0 1 T.a_law_draw T.d_law_draw ["state", "many"] spDraw) : FnOk P w K mg base CX0 2 T.a_law_pick T.d_law_pick ["state", "row"] (spPick K) := by
  refine T.F_law_pick.ok sc_law_pick (fun vs H Q E h => ?_) (fun cdv A outer s H vs Q E hr h => ?_)
  · obtain ⟨d, c, p, xs, rfl, _⟩ := h; rfl
  · obtain ⟨d, c, p, xs, rfl, hD, hP, hn, hn2, h1, h2, q⟩ := h
    have hr_law_draw := hr
    refine ⟨_, (pss_one (ps_ret (pe_ix ix_seq (pv 1) (pe_call G_law_draw hr_law_draw rfl T.m_law_draw T.F_law_draw.kp T.b_law_draw .nil pass0 (pa_cons (pv 0) (pa_cons (pe_callB call_len_seq (by rfl) T.z_len (by decide +kernel) (pa_cons (pv 1) pa_nil)) pa_nil))) (fun _ _ => rfl)))), ?_⟩
    have seqs : ∀ H', Ex d c H H' → H' p = some (.lst xs) ∨ SqT K H' p xs := fun H' x => by
      rcases hP with e | (e | ⟨o, e⟩) | e
      · exact .inl (x.but _ _ hn hn2 e)
      · exact .inr (.inl (.inl (x.but _ _ hn hn2 e)))
      · exact .inr (.inl (.inr ⟨o, x.but _ _ hn hn2 e⟩))
      · exact .inr (.inr e)
    refine ⟨_, rfl, _, rfl, _, rfl, p, xs, rfl, hP.imp SqL.of id, d, c, _, rfl, hD, by omega, by omega, fun r H' r0 r1 hx hD' => ?_⟩
    have hk : r.toNat < xs.length := by omega
    have hat : atI xs r = some (xs[r.toNat]) := by
      have z : atI xs ((r.toNat : Nat) : Int) = some (xs[r.toNat]) := atI_nat (List.getElem?_eq_getElem hk)
      rwa [show ((r.toNat : Nat) : Int) = r by omega] at z
    have fin := q (xs[r.toNat]) H' (List.getElem_mem hk) hx hD'
    rcases seqs H' hx with e | e
    · exact .inl ⟨p, _, _, _, rfl, rfl, SqL.of e, hat, fin⟩
    · exact .inr (.inl ⟨p, _, _, _, rfl, rfl, e, hat, fin⟩)
end
end Kx
namespace Kx
open PySem PySem.Spec PyProof.Rows L2
section
variable {P : Program} {w : World} {K : PySem.W.Frag} {mg : Str → Option Value} {base : Heap}
set_option pp.maxSteps 900
theorem no_left {f : Addr} {fd : FuncData} {ps : List Str} {k : Nat} {sp : Sp} {CX : CXT} (no : ∀ vs H Q E, ¬ sp vs H Q E) : FnOk P w K mg base CX k f fd ps sp :=
  ⟨fun vs H Q E h => absurd h (no vs H Q E), fun A outer s H args us vs Q E _ _ _ _ h => absurd h (no vs H Q E)⟩
/-! ### drawn trees -/
/-- a list of texts that isn't the draws' -/
structure ZL (d c : Addr) (H : Hp) (l : Addr) (zs : List Str) : Prop where
  e : H l = some (.lst (zs.map V.str))
  nd : l ≠ d
  nc : l ≠ c
  ok : ∀ z ∈ zs, sok z = true
theorem ZL.ex {d c l : Addr} {H H' : Hp} {zs : List Str} (h : ZL d c H l zs) (x : Ex d c H H') : ZL d c H' l zs := ⟨x.but _ _ h.nd h.nc h.e, h.nd, h.nc, h.ok⟩
theorem ZL.same {d c l : Addr} {H H' : Hp} {zs : List Str} (h : ZL d c H l zs) (x : Same H H') : ZL d c H' l zs := ⟨x _ _ h.e, h.nd, h.nc, h.ok⟩
theorem ZL.own {d c l p : Addr} {H : Hp} {zs : List Str} (h : ZL d c H l zs) (hp : p ≠ l) (o : HO) : ZL d c (upd H p o) l zs := ⟨by rw [upd_ne hp.symm]; exact h.e, h.nd, h.nc, h.ok⟩
def spTree (n : Nat) : Sp := fun vs H Q _ => ∃ (d c lw ln lm : Addr) (L N M : List Str) (m : Nat), vs = [.ref d, .ref lw, .ref ln, .ref lm, .int m] ∧ m < n ∧ Dr H d c ∧ ZL d c H lw L ∧ ZL d c H ln N ∧ ZL d c H lm M ∧
  L.length ≤ 20 ∧ 1 ≤ N.length ∧ N.length ≤ 10 ∧ 1 ≤ M.length ∧ M.length ≤ 10 ∧ ∀ v t H', Is H' v t → Tr L N (L ++ M) m t → Ex d c H H' → Dr H' d c → Q v H'
theorem beq0 (m : Nat) : decide (V.int (m : Int) = V.int 0) = (m == 0) := by
  rw [dec_int, Bool.eq_iff_iff]
  simp only [beq_iff_eq]
  omega
theorem tr_str {L N B : List Str} {z : Str} (h : z ∈ N) : ∀ n, Tr L N B n (.str z)
  | 0 => h
  | _ + 1 => h
theorem tr_one {L N B : List Str} {w : Str} (h : w ∈ L) : ∀ n, Tr L N B n (.tup [.str w])
  | 0 => ⟨rfl, h⟩
  | _ + 1 => .inl ⟨rfl, h⟩
theorem ok_law_tree {n : Nat}(T : Txt K mg) (G_law_draw : FnOk P w K mg base CX0 1 T.a_law_draw T.d_law_draw ["state", "many"] spDraw) (G_law_pick : FnOk P w K mg base CX0 2 T.a_law_pick T.d_law_pick ["state", "row"] (spPick K)) (G_law_tree : FnOk P w K mg base CX0 (n+2) T.a_law_tree T.d_law_tree ["state", "words", "names", "more", "deep"] (spTree n)) : FnOk P w K mg base CX0 (n+3) T.a_law_tree T.d_law_tree ["state", "words", "names", "more", "deep"] (spTree (n+1)) := by
  refine T.F_law_tree.ok sc_law_tree (fun vs H Q E h => ?_) (fun cdv A outer s H vs Q E hr h => ?_)
  · obtain ⟨d, c, lw, ln, lm, L, N, M, m, rfl, _⟩ := h; rfl
  · obtain ⟨d, c, lw, ln, lm, L, N, M, m, rfl, hm, hD, hL, hN, hM, l20, n1, n10, m1, m10, q⟩ := h
    have hr_law_tree := hr
    have hr_law_draw : Room 1 _ := hr.mono (by omega)
    have hr_law_pick : Room 2 _ := hr.mono (by omega)
    refine ⟨_, (pss_cons (ps_if (pt_cut (PW.pt (pw_or (pt_cmpR op_eq (pv 4) pe_int (nomark _)) (pw_or1 (pt_cmpR op_eq (pe_call G_law_draw hr_law_draw rfl T.m_law_draw T.F_law_draw.kp T.b_law_draw .nil pass0 (pa_cons (pv 0) (pa_cons pe_int pa_nil))) pe_int (nomark _)))))) (pss_cons (ps_if (pt_cut (PW.pt (pw_or (pt_cmpR op_eq (pe_callB call_len_seq (by rfl) T.z_len (by decide +kernel) (pa_cons (pv 1) pa_nil)) pe_int (nomark _)) (pw_or1 (pt_cmpR op_eq (pe_call G_law_draw hr_law_draw rfl T.m_law_draw T.F_law_draw.kp T.b_law_draw .nil pass0 (pa_cons (pv 0) (pa_cons pe_int pa_nil))) pe_int (nomark _)))))) (pss_one (ps_ret (pe_call G_law_pick hr_law_pick rfl T.m_law_pick T.F_law_pick.kp T.b_law_pick .nil pass0 (pa_cons (pv 0) (pa_cons (pv 2) pa_nil))))) pss_nil)
    (pss_one (ps_ret (pe_tup (pa_cons (pe_call G_law_pick hr_law_pick rfl T.m_law_pick T.F_law_pick.kp T.b_law_pick .nil pass0 (pa_cons (pv 0) (pa_cons (pv 1) pa_nil))) pa_nil))))) pss_nil)
    (pss_cons (ps_set (i := 5) sc_law_tree.nd rfl (Or.inl rfl) (pe_callTy call_tuple_of (by rfl) T.z_tuple (by decide +kernel) (pa_cons (pe_lc (own := [("k", 6)]) (g := (gName 6)) (tt := tYes) rfl sc_law_tree.nd (pi_range1 (by rfl) T.z_range (pa_cons (pe_op op_add pe_int (pe_call G_law_draw hr_law_draw rfl T.m_law_draw T.F_law_draw.kp T.b_law_draw .nil pass0 (pa_cons (pv 0) (pa_cons pe_int pa_nil)))) pa_nil)) (blkOk_by (own := [("k", 6)]) (N := ["state", "words", "names", "more", "deep", "parts", "k"]) (sc := defScope s_law_tree) (by decide +kernel)) (fun _ _ _ _ _ => (pg_name (i := 6) sc_law_tree.nd rfl (Or.inl rfl))) (fun _ _ _ _ _ => pts_nil) (fun _ _ _ _ _ => (pe_call G_law_tree hr_law_tree rfl T.m_law_tree T.F_law_tree.kp T.b_law_tree .nil pass0 (pa_cons (pv 0) (pa_cons (pv 1) (pa_cons (pv 2) (pa_cons (pv 3) (pa_cons (pe_op op_sub (pv 4) pe_int) pa_nil)))))))) pa_nil)))
    (pss_one (ps_ret (pe_op op_catT (pe_tup (pa_cons (pe_call G_law_pick hr_law_pick rfl T.m_law_pick T.F_law_pick.kp T.b_law_pick .nil pass0 (pa_cons (pv 0) (pa_cons (pe_op op_cat (pv 1) (pv 3)) pa_nil))) pa_nil)) (pv 5)))))), ?_⟩
    refine ⟨fun b H1 => Ex d c H H1 ∧ Dr H1 d c ∧ (b = false → m ≠ 0), ?_, fun b H1 ⟨x1, D1, hb⟩ => ?_⟩
    · refine ⟨_, rfl, rfl, _, rfl, ?_⟩
      rw [beq0]
      by_cases h0 : m = 0
      · rw [show (m == 0) = true by simp [h0]]
        exact iteT ⟨.refl _ _ _, hD, fun e => by cases e⟩
      · rw [show (m == 0) = false by simp [h0]]
        exact iteF ⟨_, rfl, d, c, 3, rfl, hD, by omega, by omega, fun r H1 _ _ x1 D1 => ⟨rfl, _, rfl, x1, D1, fun _ => h0⟩⟩
    cases b with
    | true =>
      refine iteT ?_
      refine ⟨fun b H2 => Ex d c H H2 ∧ Dr H2 d c ∧ (b = false → L ≠ []), ?_, fun b H2 ⟨x2, D2, hb⟩ => ?_⟩
      · refine ⟨_, rfl, lw, _, rfl, .inl (SqL.of (hL.ex x1).e), rfl, _, rfl, ?_⟩
        rw [List.length_map, beq0]
        by_cases h0 : L = []
        · rw [show (L.length == 0) = true by simp [h0]]
          exact iteT ⟨x1, D1, fun e => by cases e⟩
        · rw [show (L.length == 0) = false by simp [h0]]
          exact iteF ⟨_, rfl, d, c, 2, rfl, D1, by omega, by omega, fun r H2 _ _ x2 D2 => ⟨rfl, _, rfl, x1.trans x2, D2, fun _ => h0⟩⟩
      cases b with
      | true =>
        refine iteT ⟨_, rfl, _, rfl, d, c, ln, N.map V.str, rfl, D2, .inl (hN.ex x2).e, hN.nd, hN.nc, by rw [List.length_map]; exact n1, by rw [List.length_map]; omega, fun x H3 hx x3 D3 => ?_⟩
        obtain ⟨z, hz, rfl⟩ := List.mem_map.mp hx
        exact q _ (.str z) H3 (.str z (hN.ok z hz)) (tr_str hz m) (x2.trans x3) D3
      | false =>
        have hne := hb rfl
        have l1 : 1 ≤ L.length := by cases L with | nil => exact absurd rfl hne | cons _ _ => simp
        refine iteF ⟨_, rfl, _, rfl, d, c, lw, L.map V.str, rfl, D2, .inl (hL.ex x2).e, hL.nd, hL.nc, by rw [List.length_map]; exact l1, by rw [List.length_map]; omega, fun x H3 hx x3 D3 => ⟨(by show 1 ≤ sizeLine; decide), fun p hp => ?_⟩⟩
        obtain ⟨z, hz, rfl⟩ := List.mem_map.mp hx
        have s4 := same_upd hp (.tup [V.str z])
        exact q _ (.tup [.str z]) _ (.tup upd_same (.cons (.str z (hL.ok z hz)) .nil)) (tr_one hz m) ((x2.trans x3).trans (.of s4)) (D3.same s4)
    | false =>
      obtain ⟨k, rfl⟩ : ∃ k, m = k + 1 := ⟨m - 1, by have := hb rfl; omega⟩
      refine iteF ⟨_, rfl, d, c, 3, rfl, D1, by omega, by omega, fun r H2 r0 r3 x2 D2 => ⟨_, _, rfl, rfl, 1 + r, rfl, by omega, by omega, fun D hDn => ?_⟩⟩
      obtain ⟨nd, nc⟩ := D2.free hDn
      have x12 := x1.trans x2
      refine lc_range (lo := 0) (n := (1 + r).toNat) (fun i H3 => Ex d c H2 H3 ∧ Dr H3 d c ∧ ∃ vs ts, H3 D = some (.lst vs) ∧ IsL H3 vs ts ∧ (∀ t ∈ ts, Tr L N (L ++ M) k t) ∧ ts.length = i) ?_ ?_ ?_
      · exact ⟨.of (same_upd hDn _), D2.own nd nc, [], [], upd_same, .nil, by simp, rfl⟩
      · intro i H3 hi ⟨x3, D3, vs, ts, eD, hI, hT, hl⟩
        have x13 := x12.trans x3
        refine ⟨rfl, yes_if ⟨_, rfl, _, rfl, _, rfl, _, rfl, _, rfl, _, _, rfl, rfl, d, c, lw, ln, lm, L, N, M, k, ?_, by omega, D3, hL.ex x13, hN.ex x13, hM.ex x13, l20, n1, n10, m1, m10, fun v t H4 it tt x4 D4 => ?_⟩⟩
        · show [V.ref d, V.ref lw, V.ref ln, V.ref lm, V.int (((k + 1 : Nat) : Int) - 1)] = _
          rw [show (((k + 1 : Nat) : Int) - 1) = (k : Int) by omega]
        · have eD4 := x4.but _ _ nd nc eD
          have hlen := hI.len
          refine ⟨vs, eD4, small1000 (by omega), Ex.own (x3.trans x4) hDn _, D4.own nd nc, vs ++ [v], ts ++ [t], upd_same, ?_, fun t' ht' => ?_, by rw [List.length_append, hl]; rfl⟩
          · exact ((hI.ex x4 D3).append (.cons it .nil)).tk fun a us e => by rw [upd_ne (fun q => by rw [q, eD4] at e; cases e)]; exact e
          · rcases List.mem_append.mp ht' with h | h
            · exact hT t' h
            · rw [List.mem_singleton.mp h]; exact tt
      · intro H3 ⟨x3, D3, vs, ts, eD, hI, hT, hl⟩
        have hlen := hI.len
        refine ⟨D, vs, rfl, .inl ⟨SqL.of eD, fun l hl2 => ?_⟩⟩
        have s4 := same_upd hl2 (.tup vs)
        have x14 := (x12.trans x3).trans (Ex.of s4)
        have D4 := D3.same s4
        refine ⟨_, rfl, _, rfl, _, rfl, lw, lm, _, _, rfl, rfl, (hL.ex x14).e, (hM.ex x14).e, by rw [List.length_map, List.length_map]; exact Nat.le_of_lt (small1000 (by omega)), fun p hp => ?_⟩
        have s5 := same_upd hp (.lst (L.map V.str ++ M.map V.str))
        obtain ⟨pd, pc⟩ := D4.free hp
        refine ⟨d, c, p, L.map V.str ++ M.map V.str, rfl, D4.same s5, .inl upd_same, pd, pc, by rw [List.length_append, List.length_map, List.length_map]; omega, by rw [List.length_append, List.length_map, List.length_map]; omega, fun x H6 hx x6 D6 => ⟨(by show 1 ≤ sizeLine; decide), fun p2 hp2 => ?_⟩⟩
        rw [← List.map_append] at hx
        obtain ⟨z, hz, rfl⟩ := List.mem_map.mp hx
        have ok : sok z = true := (List.mem_append.mp hz).elim (hL.ok z) (hM.ok z)
        have s7 := same_upd hp2 (.tup [V.str z])
        have e7 : upd H6 p2 (.tup [V.str z]) l = some (.tup vs) := s7 _ _ (x6.keep (D4.same s5) (s5 _ _ upd_same) fun xs q => by cases q)
        refine ⟨_, rfl, p2, l, [V.str z], vs, rfl, rfl, .inl (.inl upd_same), .inl (.inl e7), by simp, by rw [List.length_singleton]; exact Nat.le_of_lt (small1000 (by omega)), fun e => ?_, fun _ p3 hp3 => ?_⟩
        · have e0 : ts.length = 0 := by rw [← hlen, e]; rfl
          omega
        · have s8 := same_upd hp3 (.tup ([V.str z] ++ vs))
          have hI8 : IsL _ vs ts := (((((hI.same s4).same s5).ex x6 (D4.same s5)).same s7).same s8)
          refine q _ (.tup (.str z :: ts)) _ (.tup upd_same (.cons (.str z ok) hI8)) (.inr ⟨?_, hz, by omega, hT⟩) (((x14.trans (.of s5)).trans x6).trans (.of (s7.trans s8))) ((D6.same s7).same s8)
          intro e
          rw [e] at hl
          simp at hl
          omega
theorem all_tree (T : Txt K mg) : ∀ n, FnOk P w K mg base CX0 (n + 2) T.a_law_tree T.d_law_tree ["state", "words", "names", "more", "deep"] (spTree n)
  | 0 => no_left fun vs H Q E ⟨_, _, _, _, _, _, _, _, _, _, h, _⟩ => by omega
  | n + 1 => ok_law_tree T (ok_law_draw T) (ok_law_pick T (ok_law_draw T)) (all_tree T n)
/-! ### kinds, clauses -/
structure Kd where
  fam : Str
  tm : PV
def kdP (k : Kd) : PV := .tup [.str k.fam, k.tm]
abbrev KN : List Str := ["n", "m", "x1"]
abbrev CN : List Str := ["n", "v", "x1", "next"]
def KdOk (F L N : List Str) (k : Kd) : Prop := k.fam ∈ F ∧ Tr L N (L ++ (["other"] : List Str)) 1 k.tm
theorem zl_new {d c p : Addr} {H : Hp} {zs : List Str} (D : Dr H d c) (hp : H p = none) (ok : ∀ z ∈ zs, sok z = true) : ZL d c (upd H p (.lst (zs.map V.str))) p zs := ⟨upd_same, (D.free hp).1, (D.free hp).2, ok⟩
theorem IsL.over {H : Hp} {D : Addr} {xs ys : List V} (e : H D = some (.lst xs)) {vs : List V} {ts : List PV} (h : IsL H vs ts) : IsL (upd H D (.lst ys)) vs ts := h.tk fun a us e2 => by rw [upd_ne (fun q => by rw [q, e] at e2; cases e2)]; exact e2
theorem Is.over {H : Hp} {D : Addr} {xs ys : List V} (e : H D = some (.lst xs)) {v : V} {t : PV} (h : Is H v t) : Is (upd H D (.lst ys)) v t := h.tk fun a us e2 => by rw [upd_ne (fun q => by rw [q, e] at e2; cases e2)]; exact e2
def spTypes : Sp := fun vs H Q _ => ∃ (d c lf lw ln : Addr) (F L N : List Str) (m : Nat), vs = [.ref d, .ref lf, .ref lw, .ref ln, .int m] ∧ Dr H d c ∧ (H lf = some (.lst (F.map V.str)) ∨ SqT K H lf (F.map V.str)) ∧ lf ≠ d ∧ lf ≠ c ∧ (∀ z ∈ F, sok z = true) ∧ ZL d c H lw L ∧ ZL d c H ln N ∧ 1 ≤ F.length ∧ F.length ≤ 20 ∧
  L.length ≤ 20 ∧ 1 ≤ N.length ∧ N.length ≤ 10 ∧ m ≤ 5 ∧ ∀ v (ks : List Kd) H', Is H' v (.tup (ks.map kdP)) → ks.length = m → (∀ k ∈ ks, KdOk F L N k) → Ex d c H H' → Dr H' d c → Q v H'
theorem seq_ex {d c l : Addr} {H H' : Hp} {xs : List V} (x : Ex d c H H') (n1 : l ≠ d) (n2 : l ≠ c) (h : H l = some (.lst xs) ∨ SqT K H l xs) : H' l = some (.lst xs) ∨ SqT K H' l xs := by
  rcases h with e | (e | ⟨o, e⟩) | e
  · exact .inl (x.but _ _ n1 n2 e)
  · exact .inr (.inl (.inl (x.but _ _ n1 n2 e)))
  · exact .inr (.inl (.inr ⟨o, x.but _ _ n1 n2 e⟩))
  · exact .inr (.inr e)
theorem ok_law_types (T : Txt K mg) (G_law_pick : FnOk P w K mg base CX0 2 T.a_law_pick T.d_law_pick ["state", "row"] (spPick K)) (G_law_tree : FnOk P w K mg base CX0 5 T.a_law_tree T.d_law_tree ["state", "words", "names", "more", "deep"] (spTree 3)) : FnOk P w K mg base CX0 6 T.a_law_types T.d_law_types ["state", "families", "makers", "names", "many"] (spTypes (K := K)) := by
  refine T.F_law_types.ok sc_law_types (fun vs H Q E h => ?_) (fun cdv A outer s H vs Q E hr h => ?_)
  · obtain ⟨d, c, lf, lw, ln, F, L, N, m, rfl, _⟩ := h; rfl
  · obtain ⟨d, c, lf, lw, ln, F, L, N, m, rfl, hD, hF, f1, f2, okF, hL, hN, F1, F20, l20, n1, n10, m5, q⟩ := h
    have hr_law_pick : Room 2 _ := hr.mono (by decide)
    have hr_law_tree : Room 5 _ := hr.mono (by decide)
    refine ⟨_, (pss_one (ps_ret (pe_callTy call_tuple_of (by rfl) T.z_tuple (by decide +kernel) (pa_cons (pe_lc (own := [("k", 5)]) (g := (gName 5)) (tt := tYes) rfl sc_law_types.nd (pi_range1 (by rfl) T.z_range (pa_cons (pv 4) pa_nil)) (blkOk_by (own := [("k", 5)]) (N := ["state", "families", "makers", "names", "many", "k"]) (sc := defScope s_law_types) (by decide +kernel)) (fun _ _ _ _ _ => (pg_name (i := 5) sc_law_types.nd rfl (Or.inl rfl))) (fun _ _ _ _ _ => pts_nil) (fun _ _ _ _ _ => (pe_tup (pa_cons (pe_call G_law_pick hr_law_pick rfl T.m_law_pick T.F_law_pick.kp T.b_law_pick .nil pass0 (pa_cons (pv 0) (pa_cons (pv 1) pa_nil))) (pa_cons (pe_call G_law_tree hr_law_tree rfl T.m_law_tree T.F_law_tree.kp T.b_law_tree .nil pass0 (pa_cons (pv 0) (pa_cons (pv 2) (pa_cons (pv 3) (pa_cons (pe_lst (pa_cons pe_str pa_nil)) (pa_cons pe_int pa_nil)))))) pa_nil))))) pa_nil)))), ?_⟩
    refine ⟨_, rfl, (m : Int), rfl, by omega, by omega, fun D hDn => ?_⟩
    obtain ⟨nd, nc⟩ := hD.free hDn
    refine lc_range (lo := 0) (n := (m : Int).toNat) (fun i H3 => Ex d c H H3 ∧ Dr H3 d c ∧ ∃ vs, ∃ ks : List Kd, H3 D = some (.lst vs) ∧ IsL H3 vs (ks.map kdP) ∧ (∀ k ∈ ks, KdOk F L N k) ∧ ks.length = i) ?_ ?_ ?_
    · exact ⟨.of (same_upd hDn _), hD.own nd nc, [], [], upd_same, .nil, by simp, rfl⟩
    · intro i H3 hi ⟨x3, D3, vs, ks, eD, hI, hT, hl⟩
      have hi' : i < 5 := by omega
      refine ⟨rfl, yes_if ⟨_, rfl, _, rfl, d, c, lf, F.map V.str, rfl, D3, seq_ex x3 f1 f2 hF, f1, f2, by rw [List.length_map]; exact F1, by rw [List.length_map]; omega, fun x H4 hx x4 D4 => ?_⟩⟩
      obtain ⟨f, hf, rfl⟩ := List.mem_map.mp hx
      refine ⟨_, rfl, _, rfl, _, rfl, (by show 1 ≤ sizeLine; decide), fun p hp => ?_⟩
      have s5 := same_upd hp (.lst [V.str "other"])
      have x35 := (x3.trans x4).trans (.of s5)
      refine ⟨d, c, lw, ln, p, L, N, ["other"], 1, rfl, by decide, D4.same s5, hL.ex x35, hN.ex x35, zl_new (zs := ["other"]) D4 hp (by decide +kernel), l20, n1, n10, by decide, by decide, fun v t H6 it tt x6 D6 => ⟨(by show 2 ≤ sizeLine; decide), fun p2 hp2 => ?_⟩⟩
      have s7 := same_upd hp2 (.tup [V.str f, v])
      have x37 := ((x4.trans (.of s5)).trans x6).trans (.of s7)
      have eD7 := x37.but _ _ nd nc eD
      have hlen := hI.len
      rw [List.length_map] at hlen
      refine ⟨vs, eD7, small1000 (by omega), Ex.own (x3.trans x37) hDn _, (D6.same s7).own nd nc, vs ++ [.ref p2], ks ++ [⟨f, t⟩], upd_same, ?_, fun k hk => ?_, by rw [List.length_append, hl]; rfl⟩
      · rw [List.map_append]
        exact IsL.over eD7 ((hI.ex x37 D3).append (.cons (.tup upd_same (.cons (.str f (okF f hf)) (.cons (it.same s7) .nil))) .nil))
      · rcases List.mem_append.mp hk with h | h
        · exact hT k h
        · rw [List.mem_singleton.mp h]; exact ⟨hf, tt⟩
    · intro H3 ⟨x3, D3, vs, ks, eD, hI, hT, hl⟩
      refine ⟨D, vs, rfl, .inl ⟨SqL.of eD, fun l hl2 => ?_⟩⟩
      have s4 := same_upd hl2 (.tup vs)
      exact q _ ks _ (.tup upd_same (hI.same s4)) (by omega) hT (x3.trans (.of s4)) (D3.same s4)
def spClause : Sp := fun vs H Q _ => ∃ (d c lc : Addr) (C : List Str) (m : Nat), vs = [.ref d, .ref lc, .int m] ∧ Dr H d c ∧ ZL d c H lc C ∧ C.length ≤ 20 ∧ m ≤ 5 ∧
  ∀ v ps b H', Is H' v (.tup [.tup ps, b]) → ps.length = m → (∀ p ∈ ps, Tr C CN (C ++ (["Other"] : List Str)) 2 p) → Tr C CN (C ++ (["f", "g", "con"] : List Str)) 2 b → Ex d c H H' → Dr H' d c → Q v H'
theorem ok_law_clause (T : Txt K mg) (G_law_tree : FnOk P w K mg base CX0 5 T.a_law_tree T.d_law_tree ["state", "words", "names", "more", "deep"] (spTree 3)) : FnOk P w K mg base CX0 6 T.a_law_clause T.d_law_clause ["state", "constructors", "many"] spClause := by
  refine T.F_law_clause.ok sc_law_clause (fun vs H Q E h => ?_) (fun cdv A outer s H vs Q E hr h => ?_)
  · obtain ⟨d, c, lc, C, m, rfl, _⟩ := h; rfl
  · obtain ⟨d, c, lc, C, m, rfl, hD, hC, c20, m5, q⟩ := h
    have hr_law_tree : Room 5 _ := hr.mono (by decide)
    refine ⟨_, (pss_cons (ps_set (i := 3) sc_law_clause.nd rfl (Or.inl rfl) (pe_callTy call_tuple_of (by rfl) T.z_tuple (by decide +kernel) (pa_cons (pe_lc (own := [("k", 4)]) (g := (gName 4)) (tt := tYes) rfl sc_law_clause.nd (pi_range1 (by rfl) T.z_range (pa_cons (pv 2) pa_nil)) (blkOk_by (own := [("k", 4)]) (N := ["state", "constructors", "many", "patterns", "k"]) (sc := defScope s_law_clause) (by decide +kernel)) (fun _ _ _ _ _ => (pg_name (i := 4) sc_law_clause.nd rfl (Or.inl rfl))) (fun _ _ _ _ _ => pts_nil) (fun _ _ _ _ _ => (pe_call G_law_tree hr_law_tree rfl T.m_law_tree T.F_law_tree.kp T.b_law_tree .nil pass0 (pa_cons (pv 0) (pa_cons (pv 1) (pa_cons (pe_lst (pa_cons pe_str (pa_cons pe_str (pa_cons pe_str (pa_cons pe_str pa_nil))))) (pa_cons (pe_lst (pa_cons pe_str pa_nil)) (pa_cons pe_int pa_nil)))))))) pa_nil)))
    (pss_one (ps_ret (pe_tup (pa_cons (pv 3) (pa_cons (pe_call G_law_tree hr_law_tree rfl T.m_law_tree T.F_law_tree.kp T.b_law_tree .nil pass0 (pa_cons (pv 0) (pa_cons (pv 1) (pa_cons (pe_lst (pa_cons pe_str (pa_cons pe_str (pa_cons pe_str (pa_cons pe_str pa_nil))))) (pa_cons (pe_lst (pa_cons pe_str (pa_cons pe_str (pa_cons pe_str pa_nil)))) (pa_cons pe_int pa_nil)))))) pa_nil)))))), ?_⟩
    refine ⟨_, rfl, (m : Int), rfl, by omega, by omega, fun D hDn => ?_⟩
    obtain ⟨nd, nc⟩ := hD.free hDn
    refine lc_range (lo := 0) (n := (m : Int).toNat) (fun i H3 => Ex d c H H3 ∧ Dr H3 d c ∧ ∃ vs ts, H3 D = some (.lst vs) ∧ IsL H3 vs ts ∧ (∀ t ∈ ts, Tr C CN (C ++ (["Other"] : List Str)) 2 t) ∧ ts.length = i) ?_ ?_ ?_
    · exact ⟨.of (same_upd hDn _), hD.own nd nc, [], [], upd_same, .nil, by simp, rfl⟩
    · intro i H3 hi ⟨x3, D3, vs, ts, eD, hI, hT, hl⟩
      have hi' : i < 5 := by omega
      refine ⟨rfl, yes_if ⟨_, rfl, _, rfl, (by show 4 ≤ sizeLine; decide), fun p hp => ⟨(by show 1 ≤ sizeLine; decide), fun p2 hp2 => ?_⟩⟩⟩
      have s4 := same_upd hp (.lst (CN.map V.str))
      have s5 := same_upd hp2 (.lst ((["Other"] : List Str).map V.str))
      have x45 := x3.trans (.of (s4.trans s5))
      refine ⟨d, c, lc, p, p2, C, CN, ["Other"], 2, rfl, by decide, (D3.same s4).same s5, hC.ex x45, (zl_new (zs := CN) D3 hp (by decide +kernel)).same s5, zl_new (zs := ["Other"]) (D3.same s4) hp2 (by decide +kernel), c20, by decide, by decide, by decide, by decide, fun v t H6 it tt x6 D6 => ?_⟩
      have x36 := (Ex.of (s4.trans s5)).trans x6
      have eD6 := x36.but _ _ nd nc eD
      have hlen := hI.len
      refine ⟨vs, eD6, small1000 (by omega), Ex.own (x3.trans x36) hDn _, D6.own nd nc, vs ++ [v], ts ++ [t], upd_same, IsL.over eD6 ((hI.ex x36 D3).append (.cons it .nil)), fun t' ht' => ?_, by rw [List.length_append, hl]; rfl⟩
      rcases List.mem_append.mp ht' with h | h
      · exact hT t' h
      · rw [List.mem_singleton.mp h]; exact tt
    · intro H3 ⟨x3, D3, vs, ts, eD, hI, hT, hl⟩
      refine ⟨D, vs, rfl, .inl ⟨SqL.of eD, fun l hl2 => ?_⟩⟩
      have s4 := same_upd hl2 (.tup vs)
      have D4 := D3.same s4
      refine ⟨_, rfl, _, rfl, _, rfl, (by show 4 ≤ sizeLine; decide), fun p hp => ⟨(by show 3 ≤ sizeLine; decide), fun p2 hp2 => ?_⟩⟩
      have s5 := same_upd hp (.lst (CN.map V.str))
      have s6 := same_upd hp2 (.lst ((["f", "g", "con"] : List Str).map V.str))
      have x46 := (x3.trans (.of s4)).trans (.of (s5.trans s6))
      refine ⟨d, c, lc, p, p2, C, CN, ["f", "g", "con"], 2, rfl, by decide, (D4.same s5).same s6, hC.ex x46, (zl_new (zs := CN) D4 hp (by decide +kernel)).same s6, zl_new (zs := ["f", "g", "con"]) (D4.same s5) hp2 (by decide +kernel), c20, by decide, by decide, by decide, by decide, fun v t H7 it tt x7 D7 => ⟨(by show 2 ≤ sizeLine; decide), fun p3 hp3 => ?_⟩⟩
      have s8 := same_upd hp3 (.tup [V.ref l, v])
      have hT4 : Is _ (.ref l) (.tup ts) := .tup upd_same (hI.same s4)
      exact q _ ts t _ (.tup upd_same (.cons (((hT4.same (s5.trans s6)).ex x7 ((D4.same s5).same s6)).same s8) (.cons (it.same s8) .nil))) (by omega) hT tt ((x46.trans x7).trans (.of s8)) (D7.same s8)
end
end Kx
namespace Kx
open PySem PySem.Spec PyProof.Rows L2
section
variable {P : Program} {w : World} {K : PySem.W.Frag} {mg : Str → Option Value} {base : Heap}
set_option pp.maxSteps 1500
/-! ### the drawn table and program -/
structure Cn where
  w : Str
  ps : List Kd
  md : Kd
structure Cl where
  ps : List PV
  b : PV
structure Fn where
  w : Str
  ps : List Kd
  md : Kd
  falls : Nat
  cls : List Cl
structure Tb where
  mks : List (Str × Nat)
  fams : List Str
  cns : List Cn
def mkP (m : Str × Nat) : PV := .tup [.str m.1, .int m.2]
def cnP (c : Cn) : PV := .tup [.str c.w, .tup (c.ps.map kdP), .str c.md.fam, c.md.tm]
def clP (c : Cl) : PV := .tup [.tup c.ps, c.b]
def fnP (f : Fn) : PV := .tup [.str f.w, .tup (f.ps.map kdP), .str f.md.fam, f.md.tm, .int f.falls, .tup (f.cls.map clP)]
def tabP (t : Tb) : PV := .tup [.str "table", .tup (t.mks.map mkP), .tup (t.fams.map PV.str), .tup (t.cns.map cnP)]
def prgP (fs : List Fn) : PV := .tup [.str "program", .tup (fs.map fnP)]
abbrev MW : List Str := ["zero", "next", "con", "a", "fun"]
abbrev FW : List Str := ["Nat", "V", "family", "maker", "F3"]
abbrev CW : List Str := ["Z", "S", "Nil", "falls", "K9", "twelveletter"]
abbrev GW : List Str := ["f", "fun", "maker"]
abbrev NW : List Nat := [0, 1, 2, 9, 10, 99]
def Tb.mw (t : Tb) : List Str := t.mks.map (·.1)
def Tb.cw (t : Tb) : List Str := t.cns.map (·.w)
structure CnOk (F L : List Str) (c : Cn) : Prop where
  w : c.w ∈ CW
  ps : ∀ k ∈ c.ps, KdOk F L KN k
  l3 : c.ps.length ≤ 3
  md : KdOk F L KN c.md
structure TbOk (t : Tb) : Prop where
  mw : t.mw.Sublist MW
  mn : ∀ m ∈ t.mks, m.2 ∈ NW
  fw : t.fams.Sublist FW
  f1 : 1 ≤ t.fams.length
  cw : t.cw.Sublist CW
  cn : ∀ c ∈ t.cns, CnOk t.fams t.mw c
structure ClOk (C : List Str) (n : Nat) (c : Cl) : Prop where
  l : c.ps.length = n
  ps : ∀ p ∈ c.ps, Tr C CN (C ++ (["Other"] : List Str)) 2 p
  b : Tr C CN (C ++ (["f", "g", "con"] : List Str)) 2 c.b
structure FnOkk (t : Tb) (f : Fn) : Prop where
  w : f.w ∈ GW
  ps : ∀ k ∈ f.ps, KdOk t.fams t.mw KN k
  l1 : 1 ≤ f.ps.length
  l3 : f.ps.length ≤ 3
  md : KdOk t.fams t.mw KN f.md
  falls : f.falls < 100
  cls : ∀ c ∈ f.cls, ClOk t.cw f.ps.length c
  l2 : f.cls.length ≤ 2
theorem sub_step {α : Type} {acc l : List α} {i : Nat} {x : α} (h : acc.Sublist (l.take i)) (e : l[i]? = some x) : (acc ++ [x]).Sublist (l.take (i + 1)) := by
  rw [List.take_add_one, e]
  exact h.append (.refl _)
theorem sub_skip {α : Type} {acc l : List α} {i : Nat} (h : acc.Sublist (l.take i)) : acc.Sublist (l.take (i + 1)) := by
  rw [List.take_add_one]
  exact h.trans (List.sublist_append_left ..)
theorem Ex.none {d c D : Addr} {H H3 : Hp} (x : Ex d c H H3) (h : Dr H3 d c) (e : H3 D = none) : H D = none := by
  obtain ⟨n1, n2⟩ := h.free e
  cases q : H D with
  | none => rfl
  | some o => have := x.but D o n1 n2 q; rw [e] at this; cases this
theorem strsL {H : Hp} : ∀ {zs : List Str}, (∀ z ∈ zs, sok z = true) → IsL H (zs.map V.str) (zs.map PV.str)
  | [], _ => .nil
  | z :: r, h => .cons (.str z (h z (List.mem_cons_self ..))) (strsL fun x hx => h x (List.mem_cons_of_mem _ hx))
theorem gt0 (r : Int) : decide ((0 : Int) < r) = true ∨ decide ((0 : Int) < r) = false := by cases decide ((0 : Int) < r) <;> simp
def spTable : Sp := fun vs H Q _ => ∃ (d c : Addr), vs = [.ref d] ∧ Dr H d c ∧ ∀ v t H', Is H' v (tabP t) → TbOk t → Ex d c H H' → Dr H' d c → Q v H'
theorem ok_law_table (T : Txt K mg) (G_law_draw : FnOk P w K mg base CX0 1 T.a_law_draw T.d_law_draw ["state", "many"] spDraw) (G_law_pick : FnOk P w K mg base CX0 2 T.a_law_pick T.d_law_pick ["state", "row"] (spPick K)) (G_law_types : FnOk P w K mg base CX0 6 T.a_law_types T.d_law_types ["state", "families", "makers", "names", "many"] (spTypes (K := K))) : FnOk P w K mg base CX0 7 T.a_law_table T.d_law_table ["state"] spTable := by
  refine T.F_law_table.ok sc_law_table (fun vs H Q E h => ?_) (fun cdv A outer s H vs Q E hr h => ?_)
  · obtain ⟨d, c, rfl, _⟩ := h; rfl
  · obtain ⟨d, c, rfl, hD, q⟩ := h
    have hr_law_draw : Room 1 _ := hr.mono (by decide)
    have hr_law_pick : Room 2 _ := hr.mono (by decide)
    have hr_law_types : Room 6 _ := hr.mono (by decide)
    refine ⟨_, (pss_cons (ps_setLc (i := 2) (own := [("word", 1)]) (g := (gName 1)) rfl sc_law_table.nd rfl rfl (sw_true rfl rfl rfl (by decide +kernel)) (pi_list (pe_lst (pa_cons pe_str (pa_cons pe_str (pa_cons pe_str (pa_cons pe_str (pa_cons pe_str pa_nil))))))) (blkOk_by (own := [("word", 1)]) (N := ["state", "word", "words", "makers", "families", "constructors", "parts", "made"]) (sc := defScope s_law_table) (by decide +kernel)) (fun _ _ _ _ _ => (pg_name (i := 1) sc_law_table.nd rfl (Or.inl rfl))) (fun _ _ _ _ _ => pts_one (pt_cmpR op_gt (pe_call G_law_draw hr_law_draw rfl T.m_law_draw T.F_law_draw.kp T.b_law_draw .nil pass0 (pa_cons (pv 0) (pa_cons pe_int pa_nil))) pe_int (nomark _))) (fun _ _ _ _ _ => (pv 1)))
    (pss_cons (ps_setLc (i := 3) (own := [("word", 1)]) (g := (gName 1)) (tt := tYes) rfl sc_law_table.nd rfl rfl (sw_true rfl rfl rfl (by decide +kernel)) (pi_list (pv 2)) (blkOk_by (own := [("word", 1)]) (N := ["state", "word", "words", "makers", "families", "constructors", "parts", "made"]) (sc := defScope s_law_table) (by decide +kernel)) (fun _ _ _ _ _ => (pg_name (i := 1) sc_law_table.nd rfl (Or.inl rfl))) (fun _ _ _ _ _ => pts_nil) (fun _ _ _ _ _ => (pe_tup (pa_cons (pv 1) (pa_cons (pe_call G_law_pick hr_law_pick rfl T.m_law_pick T.F_law_pick.kp T.b_law_pick .nil pass0 (pa_cons (pv 0) (pa_cons (pe_lst (pa_cons pe_int (pa_cons pe_int (pa_cons pe_int (pa_cons pe_int (pa_cons pe_int (pa_cons pe_int pa_nil))))))) pa_nil))) pa_nil)))))
    (Evl.pss_cut (ps_set (i := 4) sc_law_table.nd rfl (Or.inl rfl) (pe_op op_cat (pe_lc (own := [("word", 1)]) (g := (gName 1)) rfl sc_law_table.nd (pi_list (pe_lst (pa_cons pe_str (pa_cons pe_str (pa_cons pe_str (pa_cons pe_str pa_nil)))))) (blkOk_by (own := [("word", 1)]) (N := ["state", "word", "words", "makers", "families", "constructors", "parts", "made"]) (sc := defScope s_law_table) (by decide +kernel)) (fun _ _ _ _ _ => (pg_name (i := 1) sc_law_table.nd rfl (Or.inl rfl))) (fun _ _ _ _ _ => pts_one (pt_cmpR op_gt (pe_call G_law_draw hr_law_draw rfl T.m_law_draw T.F_law_draw.kp T.b_law_draw .nil pass0 (pa_cons (pv 0) (pa_cons pe_int pa_nil))) pe_int (nomark _))) (fun _ _ _ _ _ => (pv 1))) (pe_lst (pa_cons pe_str pa_nil))))
    (pss_cons (ps_set (i := 5) sc_law_table.nd rfl (Or.inl rfl) (pe_lst pa_nil))
    (pss_cons (ps_for PassesOwn.never rfl (pi_list (pe_lst (pa_cons pe_str (pa_cons pe_str (pa_cons pe_str (pa_cons pe_str (pa_cons pe_str (pa_cons pe_str pa_nil)))))))) (pg_name (i := 1) sc_law_table.nd rfl (Or.inl rfl))
    (pss_one (ps_if (pt_cmpR op_gt (pe_call G_law_draw hr_law_draw rfl T.m_law_draw T.F_law_draw.kp T.b_law_draw .nil pass0 (pa_cons (pv 0) (pa_cons pe_int pa_nil))) pe_int (nomark _)) (pss_cons (ps_set (i := 6) sc_law_table.nd rfl (Or.inl rfl) (pe_call G_law_types hr_law_types rfl T.m_law_types T.F_law_types.kp T.b_law_types .nil pass0 (pa_cons (pv 0) (pa_cons (pv 4) (pa_cons (pv 2) (pa_cons (pe_lst (pa_cons pe_str (pa_cons pe_str (pa_cons pe_str pa_nil)))) (pa_cons (pe_call G_law_draw hr_law_draw rfl T.m_law_draw T.F_law_draw.kp T.b_law_draw .nil pass0 (pa_cons (pv 0) (pa_cons pe_int pa_nil))) pa_nil)))))))
    (pss_cons (ps_set (i := 7) sc_law_table.nd rfl (Or.inl rfl) (pe_ix ix_tup (pe_call G_law_types hr_law_types rfl T.m_law_types T.F_law_types.kp T.b_law_types .nil pass0 (pa_cons (pv 0) (pa_cons (pv 4) (pa_cons (pv 2) (pa_cons (pe_lst (pa_cons pe_str (pa_cons pe_str (pa_cons pe_str pa_nil)))) (pa_cons pe_int pa_nil)))))) pe_int (fun _ _ => rfl)))
    (pss_one (ps_expr (pe_bm PySem.F.plainAttrs_list PySem.F.slot_list_append PySem.F.type_list_append mt_append (pv 5) (pa_cons (pe_tup (pa_cons (pv 1) (pa_cons (pv 6) (pa_cons (pe_ix ix_tup (pv 7) pe_int (fun _ _ => rfl)) (pa_cons (pe_ix ix_tup (pv 7) pe_int (fun _ _ => rfl)) pa_nil))))) pa_nil)))))) pss_nil)))
    (pss_one (ps_ret (pe_tup (pa_cons pe_str (pa_cons (pe_callTy call_tuple_of (by rfl) T.z_tuple (by decide +kernel) (pa_cons (pv 3) pa_nil)) (pa_cons (pe_callTy call_tuple_of (by rfl) T.z_tuple (by decide +kernel) (pa_cons (pv 4) pa_nil)) (pa_cons (pe_callTy call_tuple_of (by rfl) T.z_tuple (by decide +kernel) (pa_cons (pv 5) pa_nil)) pa_nil)))))))))))), ?_⟩
    refine ⟨(by show 5 ≤ sizeLine; decide), fun p0 hp0 => ⟨p0, rfl, ⟨_, SqL.of upd_same⟩, fun D hDn => ?_⟩⟩
    have s0 := same_upd hp0 (.lst (MW.map V.str))
    have D0 := hD.same s0
    obtain ⟨p0d, p0c⟩ := hD.free hp0
    obtain ⟨nd, nc⟩ := D0.free hDn
    have nDp : p0 ≠ D := ne_of_none upd_same hDn
    have e0 : upd H p0 (.lst (MW.map V.str)) p0 = some (.lst (MW.map V.str)) := upd_same
    refine lc_list (K := K) (a := p0) (xs := MW.map V.str) (fun i H2 => Ex d c H H2 ∧ Dr H2 d c ∧ H2 p0 = some (.lst (MW.map V.str)) ∧ ∃ zs : List Str, H2 D = some (.lst (zs.map V.str)) ∧ zs.Sublist (MW.take i)) ?_ ?_ ?_ ?_
    · exact ⟨(Ex.of s0).trans (.of (same_upd hDn _)), D0.own nd nc, by rw [upd_ne nDp]; exact upd_same, [], upd_same, List.nil_sublist _⟩
    · exact fun i H2 _ ⟨_, _, e, _⟩ => SqL.of e
    · rintro i x H2 hx ⟨x2, D2, e2, zs, eD, hs⟩
      obtain ⟨z, hz, rfl⟩ : ∃ z, MW[i]? = some z ∧ V.str z = x := by rw [List.getElem?_map] at hx; cases h : MW[i]? with | none => rw [h] at hx; cases hx | some z => rw [h] at hx; exact ⟨z, rfl, Option.some.inj hx⟩
      refine ⟨rfl, _, rfl, d, c, 3, rfl, D2, by omega, by omega, fun r H3 r0 r3 x3 D3 => ?_⟩
      have e3 := x3.but _ _ p0d p0c e2
      have eD3 := x3.but _ _ nd nc eD
      have x23 := x2.trans x3
      refine ⟨_, _, rfl, rfl, _, rfl, ite2 (fun _ => ⟨_, rfl, zs.map V.str, eD3, ?_, ?_, D3.own nd nc, by rw [upd_ne nDp]; exact e3, zs ++ [z], by rw [upd_same, List.map_append]; rfl, sub_step hs hz⟩) (fun _ => ⟨x23, D3, e3, zs, eD3, sub_skip hs⟩)⟩
      · rw [List.length_map]
        exact small1000 (by have := hs.length_le; have h2 : (MW.take i).length ≤ 5 := List.length_take_le' .. ; omega)
      · exact Ex.own x23 (s0.free hDn) _
    rintro H2 ⟨x2, D2, e2, ws, eW, hs⟩
    rw [show (MW.map V.str).length = MW.length from rfl, List.take_length] at hs
    have okM : ∀ z ∈ MW, sok z = true := by decide +kernel
    have okW : ∀ z ∈ ws, sok z = true := fun z hz => okM z (hs.subset hz)
    have l5 : ws.length ≤ 5 := hs.length_le
    -- makers
    refine ⟨_, rfl, D, rfl, ⟨_, SqL.of eW⟩, fun M hM => ?_⟩
    obtain ⟨nMd, nMc⟩ := D2.free hM
    have nWM : D ≠ M := ne_of_none eW hM
    have fM : H M = none := x2.none D2 hM
    refine lc_list (K := K) (a := D) (xs := ws.map V.str) (fun i H' => Ex d c H H' ∧ Dr H' d c ∧ H' D = some (.lst (ws.map V.str)) ∧ ∃ vs, ∃ ms : List (Str × Nat), H' M = some (.lst vs) ∧ IsL H' vs (ms.map mkP) ∧ ms.map (·.1) = ws.take i ∧ ∀ m ∈ ms, m.2 ∈ NW) ?_ ?_ ?_ ?_
    · exact ⟨Ex.own x2 fM _, D2.own nMd nMc, by rw [upd_ne nWM]; exact eW, [], [], upd_same, .nil, rfl, by simp⟩
    · exact fun i H' _ ⟨_, _, e, _⟩ => SqL.of e
    · rintro i x H3 hx ⟨x3, D3, e3, vs, ms, eM, iM, em, hn⟩
      obtain ⟨z, hz, rfl⟩ : ∃ z, ws[i]? = some z ∧ V.str z = x := by rw [List.getElem?_map] at hx; cases h : ws[i]? with | none => rw [h] at hx; cases hx | some z => rw [h] at hx; exact ⟨z, rfl, Option.some.inj hx⟩
      have okz := okW z (List.mem_of_getElem? hz)
      refine ⟨rfl, yes_if ⟨_, rfl, _, rfl, (by show 6 ≤ sizeLine; decide), fun p hp => ?_⟩⟩
      have s4 := same_upd hp (.lst (NW.map fun n : Nat => V.int (n : Int)))
      have D4 := D3.same s4
      obtain ⟨pd, pc⟩ := D3.free hp
      refine ⟨d, c, p, NW.map fun n : Nat => V.int (n : Int), rfl, D4, .inl upd_same, pd, pc, by decide, by decide, fun x H5 hx5 x5 D5 => ⟨(by show 2 ≤ sizeLine; decide), fun p2 hp2 => ?_⟩⟩
      obtain ⟨n, hnm, rfl⟩ := List.mem_map.mp hx5
      have s6 := same_upd hp2 (.tup [V.str z, V.int (n : Int)])
      have x36 := ((Ex.of s4).trans x5).trans (Ex.of s6)
      have eM6 := x36.but _ _ nMd nMc eM
      have hlen := iM.len
      rw [List.length_map] at hlen
      have lm : ms.length ≤ 5 := by have := congrArg List.length em; rw [List.length_map] at this; have h2 : (ws.take i).length ≤ ws.length := List.length_take_le' ..; omega
      refine ⟨vs, eM6, small1000 (by omega), Ex.own (x3.trans x36) fM _, (D5.same s6).own nMd nMc, by rw [upd_ne nWM]; exact x36.but _ _ nd nc e3, vs ++ [.ref p2], ms ++ [(z, n)], upd_same, ?_, ?_, fun m hm => ?_⟩
      · rw [List.map_append]
        exact IsL.over eM6 ((iM.ex x36 D3).append (.cons (.tup upd_same (.cons (.str z okz) (.cons (.int _) .nil))) .nil))
      · rw [List.map_append, em, List.take_add_one, hz]; rfl
      · rcases List.mem_append.mp hm with h | h
        · exact hn m h
        · rw [List.mem_singleton.mp h]; exact hnm
    rintro H3 ⟨x3, D3, e3, vm, ms, eM, iM, em, hn⟩
    rw [List.length_map, List.take_length] at em
    -- families
    refine ⟨fun σ H7 => ∃ (fl : Addr) (F : List Str), σ = [some (.ref d), none, some (.ref D), some (.ref M), some (.ref fl), none, none, none] ∧ Ex d c H3 H7 ∧ Dr H7 d c ∧ H7 fl = some (.lst (F.map V.str)) ∧ fl ≠ d ∧ fl ≠ c ∧ F.Sublist FW ∧ 1 ≤ F.length, ?_, ?_⟩
    · refine ⟨(by show 4 ≤ sizeLine; decide), fun p4 hp4 => ⟨p4, rfl, ⟨_, SqL.of upd_same⟩, fun G hG => ?_⟩⟩
      have s4 := same_upd hp4 (.lst ((["Nat", "V", "family", "maker"] : List Str).map V.str))
      have D4 := D3.same s4
      obtain ⟨p4d, p4c⟩ := D3.free hp4
      obtain ⟨nGd, nGc⟩ := D4.free hG
      have nGp : p4 ≠ G := ne_of_none upd_same hG
      have fG : H G = none := (x3.trans (.of s4)).none D4 hG
      have fG3 := s4.free hG
      refine lc_list (K := K) (a := p4) (xs := (["Nat", "V", "family", "maker"] : List Str).map V.str) (fun i H' => Ex d c H3 H' ∧ Dr H' d c ∧ H' p4 = some (.lst ((["Nat", "V", "family", "maker"] : List Str).map V.str)) ∧ ∃ zs : List Str, H' G = some (.lst (zs.map V.str)) ∧ zs.Sublist ((["Nat", "V", "family", "maker"] : List Str).take i)) ?_ ?_ ?_ ?_
      · exact ⟨(Ex.of s4).trans (.of (same_upd hG _)), D4.own nGd nGc, by rw [upd_ne nGp]; exact upd_same, [], upd_same, List.nil_sublist _⟩
      · exact fun i H2 _ ⟨_, _, e, _⟩ => SqL.of e
      · rintro i x H5 hx ⟨x5, D5, e5, zs, eG, hs4⟩
        obtain ⟨z, hz, rfl⟩ : ∃ z, (["Nat", "V", "family", "maker"] : List Str)[i]? = some z ∧ V.str z = x := by rw [List.getElem?_map] at hx; cases h : (["Nat", "V", "family", "maker"] : List Str)[i]? with | none => rw [h] at hx; cases hx | some z => rw [h] at hx; exact ⟨z, rfl, Option.some.inj hx⟩
        refine ⟨rfl, _, rfl, d, c, 3, rfl, D5, by omega, by omega, fun r H6 r0 r3 x6 D6 => ?_⟩
        have e6 := x6.but _ _ p4d p4c e5
        have eG6 := x6.but _ _ nGd nGc eG
        have x56 := x5.trans x6
        refine ⟨_, _, rfl, rfl, _, rfl, ite2 (fun _ => ⟨_, rfl, zs.map V.str, eG6, ?_, ?_, D6.own nGd nGc, by rw [upd_ne nGp]; exact e6, zs ++ [z], by rw [upd_same, List.map_append]; rfl, sub_step hs4 hz⟩) (fun _ => ⟨x56, D6, e6, zs, eG6, sub_skip hs4⟩)⟩
        · rw [List.length_map]
          exact small1000 (by have := hs4.length_le; have h2 : ((["Nat", "V", "family", "maker"] : List Str).take i).length ≤ 4 := List.length_take_le' .. ; omega)
        · exact Ex.own x56 fG3 _
      rintro H5 ⟨x5, D5, e5, zs, eG, hs4⟩
      rw [show ((["Nat", "V", "family", "maker"] : List Str).map V.str).length = (["Nat", "V", "family", "maker"] : List Str).length from rfl, List.take_length] at hs4
      refine ⟨(by show 1 ≤ sizeLine; decide), fun p6 hp6 => ?_⟩
      have s6 := same_upd hp6 (.lst ((["F3"] : List Str).map V.str))
      have lz : zs.length ≤ 4 := hs4.length_le
      refine ⟨G, p6, zs.map V.str, (["F3"] : List Str).map V.str, rfl, rfl, s6 _ _ eG, upd_same, by rw [List.length_map]; exact Nat.le_of_lt (small1000 (by simp; omega)), fun fl hfl => ?_⟩
      have s7 := same_upd hfl (.lst (zs.map V.str ++ (["F3"] : List Str).map V.str))
      have efl : upd (upd H5 p6 (.lst ((["F3"] : List Str).map V.str))) fl (.lst (zs.map V.str ++ (["F3"] : List Str).map V.str)) fl = some (.lst ((zs ++ (["F3"] : List Str)).map V.str)) := by rw [upd_same, List.map_append]
      obtain ⟨fd, fc⟩ := (D5.same s6).free hfl
      have fsub : (zs ++ (["F3"] : List Str)).Sublist FW := hs4.append (.refl _)
      exact ⟨fl, _, rfl, x5.trans (.of (s6.trans s7)), (D5.same s6).same s7, efl, fd, fc, fsub, by simp⟩
    rintro σ H7 ⟨fl, F, rfl, x57, D7, efl, fd, fc, fsub, F1⟩
    have x7 := x3.trans x57
    have eW7 := x57.but _ _ nd nc e3
    have eM7 := x57.but _ _ nMd nMc eM
    have iM7 := iM.ex x57 D3
    have okF : ∀ z ∈ F, sok z = true := fun z hz => (by decide +kernel : ∀ z ∈ FW, sok z = true) z (fsub.subset hz)
    have F5 : F.length ≤ 5 := fsub.length_le
    refine ⟨by decide, fun cl hcl => ?_⟩
    have s8 := same_upd hcl (.lst [])
    obtain ⟨cd, cc⟩ := D7.free hcl
    have ncl : ∀ {b : Addr} {o : HO}, H7 b = some o → b ≠ cl := fun e q => by rw [q, hcl] at e; cases e
    have fcl : H cl = none := x7.none D7 hcl
    have D8 := D7.same s8
    refine ⟨(by show 6 ≤ sizeLine; decide), fun p9 hp9 => ⟨p9, rfl, ⟨_, SqL.of upd_same⟩, ?_⟩⟩
    have s9 := same_upd hp9 (.lst (CW.map V.str))
    obtain ⟨p9d, p9c⟩ := D8.free hp9
    have np9 : cl ≠ p9 := ne_of_none upd_same hp9
    refine for_list (K := K) (a := p9) (xs := CW.map V.str) (fun i σ H' => ∃ (y1 y6 y7 : Option V) (vs : List V) (cns : List Cn), σ = [some (.ref d), y1, some (.ref D), some (.ref M), some (.ref fl), some (.ref cl), y6, y7] ∧ Ex d c H H' ∧ Dr H' d c ∧ H' D = some (.lst (ws.map V.str)) ∧ H' M = some (.lst vm) ∧ IsL H' vm (ms.map mkP) ∧ H' fl = some (.lst (F.map V.str)) ∧ H' p9 = some (.lst (CW.map V.str)) ∧
      H' cl = some (.lst vs) ∧ IsL H' vs (cns.map cnP) ∧ (cns.map (·.w)).Sublist (CW.take i) ∧ ∀ c ∈ cns, CnOk F ws c) ?_ ?_ ?_ ?_
    · exact ⟨_, _, _, [], [], rfl, x7.trans (.of (s8.trans s9)), D8.same s9, s9 _ _ (s8 _ _ eW7), s9 _ _ (s8 _ _ eM7), iM7.same (s8.trans s9), s9 _ _ (s8 _ _ efl), upd_same, s9 _ _ upd_same, .nil, List.nil_sublist _, by simp⟩
    · exact fun i σ H' _ ⟨_, _, _, _, _, _, _, _, _, _, _, _, e, _⟩ => SqL.of e
    · rintro i x σ Ha hx ⟨y1, y6, y7, vs, cns, rfl, xa, Da, eWa, eMa, iMa, efa, ep9, ecl, icl, hsub, hc⟩
      obtain ⟨z, hz, rfl⟩ : ∃ z, CW[i]? = some z ∧ V.str z = x := by rw [List.getElem?_map] at hx; cases h : CW[i]? with | none => rw [h] at hx; cases hx | some z => rw [h] at hx; exact ⟨z, rfl, Option.some.inj hx⟩
      have okz : sok z = true := (by decide +kernel : ∀ z ∈ CW, sok z = true) z (List.mem_of_getElem? hz)
      refine ⟨_, rfl, d, c, 3, rfl, Da, by omega, by omega, fun r0 Hb _ _ xb Db => ?_⟩
      have base : ∀ {H'}, Ex d c Ha H' → Dr H' d c → H' D = some (.lst (ws.map V.str)) ∧ H' M = some (.lst vm) ∧ IsL H' vm (ms.map mkP) ∧ H' fl = some (.lst (F.map V.str)) ∧ H' p9 = some (.lst (CW.map V.str)) ∧ H' cl = some (.lst vs) ∧ IsL H' vs (cns.map cnP) := fun {H'} x D' =>
        ⟨x.but _ _ nd nc eWa, x.but _ _ nMd nMc eMa, iMa.ex x Da, x.but _ _ fd fc efa, x.but _ _ p9d p9c ep9, x.but _ _ cd cc ecl, icl.ex x Da⟩
      refine ⟨_, _, rfl, rfl, _, rfl, ite2 (fun _ => ?_) (fun _ => ?_)⟩
      · obtain ⟨b1, b2, b3, b4, b5, b6, b7⟩ := base xb Db
        refine ⟨_, rfl, _, rfl, _, rfl, (by show 3 ≤ sizeLine; decide), fun pn hpn => ⟨_, rfl, d, c, 4, rfl, Db.same (same_upd hpn _), by omega, by omega, fun r Hc r0 r4 xc Dc => ?_⟩⟩
        have sn := same_upd hpn (.lst (KN.map V.str))
        have xac := (xb.trans (.of sn)).trans xc
        obtain ⟨c1, c2, c3, c4, c5, c6, c7⟩ := base xac Dc
        refine ⟨d, c, fl, D, pn, F, ws, KN, r.toNat, by rw [show V.int r = V.int ((r.toNat : Nat) : Int) by rw [Int.toNat_of_nonneg r0]]; rfl, Dc, .inl c4, fd, fc, okF, ⟨c1, nd, nc, okW⟩, (zl_new (zs := KN) Db hpn (by decide +kernel)).ex xc, F1, by omega, by omega, by decide, by decide, by omega, fun v ks Hd iv lk hk xd Dd => ?_⟩
        have xad := xac.trans xd
        obtain ⟨d1, d2, d3, d4, d5, d6, d7⟩ := base xad Dd
        refine ⟨_, rfl, _, rfl, _, rfl, (by show 3 ≤ sizeLine; decide), fun pn2 hpn2 => ?_⟩
        have sn2 := same_upd hpn2 (.lst (KN.map V.str))
        obtain ⟨e1, e2, e3, e4, e5, e6, e7⟩ := base (xad.trans (.of sn2)) (Dd.same sn2)
        refine ⟨d, c, fl, D, pn2, F, ws, KN, 1, rfl, Dd.same sn2, .inl e4, fd, fc, okF, ⟨e1, nd, nc, okW⟩, zl_new (zs := KN) Dd hpn2 (by decide +kernel), F1, by omega, by omega, by decide, by decide, by omega, fun v2 ks2 He iv2 lk2 hk2 xe De => ?_⟩
        obtain ⟨k0, rfl⟩ : ∃ k, ks2 = [k] := by match ks2, lk2 with | [k], _ => exact ⟨k, rfl⟩
        obtain ⟨pa, va, rfl, ea, ia⟩ := iv2.tup_inv
        obtain ⟨x0, rfl⟩ : ∃ x, va = [x] := by have := ia.len; match va, this with | [x], _ => exact ⟨x, rfl⟩
        cases ia with
        | cons ix0 _ =>
        have xae := (xad.trans (.of sn2)).trans xe
        obtain ⟨f1, f2, f3, f4, f5, f6, f7⟩ := base xae De
        refine ⟨pa, _, _, _, rfl, rfl, .inl (.inl ea), atI_nat (j := 0) rfl, ?_⟩
        obtain ⟨pk, vk, rfl, ek, ik⟩ := ix0.tup_inv
        obtain ⟨u1, u2, rfl⟩ : ∃ a b, vk = [a, b] := by have := ik.len; match vk, this with | [a, b], _ => exact ⟨a, b, rfl⟩
        have iw : Is He u1 (.str k0.fam) := by cases ik with | cons h _ => exact h
        have it : Is He u2 k0.tm := by cases ik with | cons _ h => cases h with | cons h _ => exact h
        have ev : Is He v (.tup (ks.map kdP)) := (iv.ex (Ex.of sn2) Dd).ex xe (Dd.same sn2)
        refine ⟨_, rfl, .inl ⟨rfl, _, SqL.of f6⟩, _, rfl, _, rfl, _, rfl, pk, _, _, _, rfl, rfl, .inl (.inl ek), atI_nat (j := 0) rfl, _, rfl, pk, _, _, _, rfl, rfl, .inl (.inl ek), atI_nat (j := 1) rfl, (by show 4 ≤ sizeLine; decide), fun p3 hp3 => ?_⟩
        have s3 := same_upd hp3 (.tup [V.str z, v, u1, u2])
        have xf := xae.trans (Ex.of s3)
        have Df := De.same s3
        obtain ⟨g1, g2, g3, g4, g5, g6, g7⟩ := base xf Df
        have hlen := icl.len
        rw [List.length_map] at hlen
        have l6 : cns.length ≤ 6 := by have := hsub.length_le; rw [List.length_map] at this; have h2 : (CW.take i).length ≤ 6 := List.length_take_le' ..; omega
        refine ⟨cl, vs, _, rfl, rfl, g6, small1000 (by omega), _, _, _, vs ++ [.ref p3], cns ++ [⟨z, ks, k0⟩], rfl, Ex.own (xa.trans xf) fcl _, Df.own cd cc, ?_, ?_, IsL.over g6 g3, ?_, ?_, upd_same, ?_, ?_, fun c' hc' => ?_⟩
        · rw [upd_ne (ncl eW7)]; exact g1
        · rw [upd_ne (ncl eM7)]; exact g2
        · rw [upd_ne (ncl efl)]; exact g4
        · rw [upd_ne np9.symm]; exact g5
        · rw [List.map_append]
          exact IsL.over g6 (g7.append (.cons (.tup upd_same (.cons (.str z okz) (.cons (ev.same s3) (.cons (iw.same s3) (.cons (it.same s3) .nil))))) .nil))
        · rw [List.map_append]
          exact sub_step hsub hz
        · rcases List.mem_append.mp hc' with h | h
          · exact hc c' h
          · rw [List.mem_singleton.mp h]
            exact ⟨List.mem_of_getElem? hz, hk, by show ks.length ≤ 3; omega, hk2 k0 (by simp)⟩
      · obtain ⟨b1, b2, b3, b4, b5, b6, b7⟩ := base xb Db
        exact ⟨_, _, _, vs, cns, rfl, xa.trans xb, Db, b1, b2, b3, b4, b5, b6, b7, sub_skip hsub, hc⟩
    · rintro σ Ha ⟨y1, y6, y7, vs, cns, rfl, xa, Da, eWa, eMa, iMa, efa, ep9, ecl, icl, hsub, hc⟩
      rw [show (CW.map V.str).length = CW.length from rfl, List.take_length] at hsub
      refine ⟨_, rfl, M, vm, rfl, .inl ⟨SqL.of eMa, fun l1 hl1 => ⟨_, rfl, fl, F.map V.str, rfl, .inl ⟨SqL.of (same_upd hl1 _ _ _ efa), fun l2 hl2 => ⟨_, rfl, cl, vs, rfl, .inl ⟨SqL.of (same_upd hl2 _ _ _ (same_upd hl1 _ _ _ ecl)), fun l3 hl3 => ⟨(by show 4 ≤ sizeLine; decide), fun p hp => ?_⟩⟩⟩⟩⟩⟩⟩
      have t1 := same_upd hl1 (.tup vm)
      have t2 := same_upd hl2 (.tup (F.map V.str))
      have t3 := same_upd hl3 (.tup vs)
      have t4 := same_upd hp (.tup [V.str "table", .ref l1, .ref l2, .ref l3])
      have i1 : Is (upd Ha l1 (.tup vm)) (.ref l1) (.tup (ms.map mkP)) := .tup upd_same (iMa.same t1)
      have i2 : Is (upd (upd Ha l1 (.tup vm)) l2 (.tup (F.map V.str))) (.ref l2) (.tup (F.map PV.str)) := .tup upd_same (strsL okF)
      have i3 : Is (upd (upd (upd Ha l1 (.tup vm)) l2 (.tup (F.map V.str))) l3 (.tup vs)) (.ref l3) (.tup (cns.map cnP)) := .tup upd_same (icl.same ((t1.trans t2).trans t3))
      refine q _ ⟨ms, F, cns⟩ _ (.tup upd_same (.cons (.str _ (by decide +kernel)) (.cons (i1.same ((t2.trans t3).trans t4)) (.cons (i2.same (t3.trans t4)) (.cons (i3.same t4) .nil))))) ?_ (xa.trans (.of (((t1.trans t2).trans t3).trans t4))) (((((Da.same t1).same t2).same t3).same t4))
      exact ⟨by show (ms.map (·.1)).Sublist MW; rw [em]; exact hs, hn, fsub, F1, hsub, fun c hc' => by show CnOk F (ms.map (·.1)) c; rw [em]; exact hc c hc'⟩
end
end Kx
namespace Kx
open PySem PySem.Spec PyProof.Rows L2
section
variable {P : Program} {w : World} {K : PySem.W.Frag} {mg : Str → Option Value} {base : Heap}
set_option pp.maxSteps 1500
theorem strs_inv {H : Hp} : ∀ {zs : List Str} {vs : List V}, IsL H vs (zs.map PV.str) → vs = zs.map V.str
  | [], _, .nil => rfl
  | z :: r, _, .cons a b => by rw [a.str_inv, strs_inv b]; rfl
/-- the four parts of a table -/
theorem tab_inv {H : Hp} {tv : V} {t : Tb} (h : Is H tv (tabP t)) : ∃ (a m f k : Addr) (vm vk : List V), tv = .ref a ∧ H a = some (.tup [.str "table", .ref m, .ref f, .ref k]) ∧ H m = some (.tup vm) ∧ IsL H vm (t.mks.map mkP) ∧ H f = some (.tup (t.fams.map V.str)) ∧ H k = some (.tup vk) ∧ IsL H vk (t.cns.map cnP) := by
  obtain ⟨a, vs, rfl, ea, hl⟩ := h.tup_inv
  cases hl with
  | cons h0 hl =>
  cases hl with
  | cons h1 hl =>
  cases hl with
  | cons h2 hl =>
  cases hl with
  | cons h3 hl =>
  cases hl
  cases h0.str_inv
  obtain ⟨m, vm, rfl, em, im⟩ := h1.tup_inv
  obtain ⟨f, vf, rfl, ef, jf⟩ := h2.tup_inv
  obtain ⟨k, vk, rfl, ek, ik⟩ := h3.tup_inv
  cases strs_inv jf
  exact ⟨a, m, f, k, vm, vk, rfl, ea, em, im, ef, ek, ik⟩
theorem mem_at {H : Hp} {vs : List V} {ts : List PV} (h : IsL H vs ts) {i : Nat} {x : V} (e : vs[i]? = some x) : ∃ t, ts[i]? = some t ∧ Is H x t := h.get e
def spProg : Sp := fun vs H Q _ => ∃ (d c : Addr) (tv : V) (t : Tb), vs = [.ref d, tv] ∧ Dr H d c ∧ Is H tv (tabP t) ∧ TbOk t ∧ ∀ v (fs : List Fn) H', Is H' v (prgP fs) → (∀ f ∈ fs, FnOkk t f) → (fs.map (·.w)).Sublist GW → Ex d c H H' → Dr H' d c → Q v H'
theorem lit_get {zs : List Str} {i : Nat} {x : V} (hx : (zs.map V.str)[i]? = some x) : ∃ z, zs[i]? = some z ∧ V.str z = x := by
  rw [List.getElem?_map] at hx
  cases h : zs[i]? with
  | none => rw [h] at hx; cases hx
  | some z => rw [h] at hx; exact ⟨z, rfl, Option.some.inj hx⟩
theorem ok_law_program (T : Txt K mg) (G_law_draw : FnOk P w K mg base CX0 1 T.a_law_draw T.d_law_draw ["state", "many"] spDraw) (G_law_types : FnOk P w K mg base CX0 6 T.a_law_types T.d_law_types ["state", "families", "makers", "names", "many"] (spTypes (K := K))) (G_law_clause : FnOk P w K mg base CX0 6 T.a_law_clause T.d_law_clause ["state", "constructors", "many"] spClause) : FnOk P w K mg base CX0 7 T.a_law_program T.d_law_program ["state", "table"] spProg := by
  refine T.F_law_program.ok sc_law_program (fun vs H Q E h => ?_) (fun cdv A outer s H vs Q E hr h => ?_)
  · obtain ⟨d, c, tv, t, rfl, _⟩ := h; rfl
  · obtain ⟨d, c, tv, t, rfl, hD, hI, hT, q⟩ := h
    have hr_law_draw : Room 1 _ := hr.mono (by decide)
    have hr_law_types : Room 6 _ := hr
    have hr_law_clause : Room 6 _ := hr
    refine ⟨_, (pss_cons (ps_setLc (i := 2) (own := [("maker", 10)]) (g := (gName 10)) (tt := tYes) rfl sc_law_program.nd rfl rfl (sw_true rfl rfl rfl (by decide +kernel)) (pi_tup (pe_ix ix_tup (pv 1) pe_int (fun _ _ => rfl))) (blkOk_by (own := [("maker", 10)]) (N := ["state", "table", "makers", "constructors", "functions", "word", "many", "params", "told", "clauses", "maker", "one", "k"]) (sc := defScope s_law_program) (by decide +kernel)) (fun _ _ _ _ _ => (pg_name (i := 10) sc_law_program.nd rfl (Or.inl rfl))) (fun _ _ _ _ _ => pts_nil) (fun _ _ _ _ _ => (pe_ix (ixTK (K := K)) (pv 10) pe_int (fun _ _ => rfl))))
    (pss_cons (ps_set (i := 3) sc_law_program.nd rfl (Or.inr rfl) (pe_lc (own := [("one", 11)]) (g := (gName 11)) (tt := tYes) rfl sc_law_program.nd (pi_tup (pe_ix ix_tup (pv 1) pe_int (fun _ _ => rfl))) (blkOk_by (own := [("one", 11)]) (N := ["state", "table", "makers", "constructors", "functions", "word", "many", "params", "told", "clauses", "maker", "one", "k"]) (sc := defScope s_law_program) (by decide +kernel)) (fun _ _ _ _ _ => (pg_name (i := 11) sc_law_program.nd rfl (Or.inl rfl))) (fun _ _ _ _ _ => pts_nil) (fun _ _ _ _ _ => (pe_ix (ixTK (K := K)) (pv 11) pe_int (fun _ _ => rfl)))))
    (pss_cons (ps_set (i := 4) sc_law_program.nd rfl (Or.inl rfl) (pe_lst pa_nil))
    (pss_cons (ps_for PassesOwn.never rfl (pi_list (pe_lst (pa_cons pe_str (pa_cons pe_str (pa_cons pe_str pa_nil))))) (pg_name (i := 5) sc_law_program.nd rfl (Or.inl rfl))
    (pss_one (ps_if (pt_cmpR op_gt (pe_call G_law_draw hr_law_draw rfl T.m_law_draw T.F_law_draw.kp T.b_law_draw .nil pass0 (pa_cons (pv 0) (pa_cons pe_int pa_nil))) pe_int (nomark _)) (pss_cons (ps_set (i := 6) sc_law_program.nd rfl (Or.inr rfl) (pe_op op_add pe_int (pe_call G_law_draw hr_law_draw rfl T.m_law_draw T.F_law_draw.kp T.b_law_draw .nil pass0 (pa_cons (pv 0) (pa_cons pe_int pa_nil)))))
    (pss_cons (ps_set (i := 7) sc_law_program.nd rfl (Or.inl rfl) (pe_call G_law_types hr_law_types rfl T.m_law_types T.F_law_types.kp T.b_law_types .nil pass0 (pa_cons (pv 0) (pa_cons (pe_ix ix_tup (pv 1) pe_int (fun _ _ => rfl)) (pa_cons (pv 2) (pa_cons (pe_lst (pa_cons pe_str (pa_cons pe_str (pa_cons pe_str pa_nil)))) (pa_cons (pv 6) pa_nil)))))))
    (pss_cons (ps_set (i := 8) sc_law_program.nd rfl (Or.inl rfl) (pe_ix ix_tup (pe_call G_law_types hr_law_types rfl T.m_law_types T.F_law_types.kp T.b_law_types .nil pass0 (pa_cons (pv 0) (pa_cons (pe_ix ix_tup (pv 1) pe_int (fun _ _ => rfl)) (pa_cons (pv 2) (pa_cons (pe_lst (pa_cons pe_str (pa_cons pe_str (pa_cons pe_str pa_nil)))) (pa_cons pe_int pa_nil)))))) pe_int (fun _ _ => rfl)))
    (pss_cons (ps_set (i := 9) sc_law_program.nd rfl (Or.inl rfl) (pe_callTy call_tuple_of (by rfl) T.z_tuple (by decide +kernel) (pa_cons (pe_lc (own := [("k", 12)]) (g := (gName 12)) (tt := tYes) rfl sc_law_program.nd (pi_range1 (by rfl) T.z_range (pa_cons (pe_call G_law_draw hr_law_draw rfl T.m_law_draw T.F_law_draw.kp T.b_law_draw .nil pass0 (pa_cons (pv 0) (pa_cons pe_int pa_nil))) pa_nil)) (blkOk_by (own := [("k", 12)]) (N := ["state", "table", "makers", "constructors", "functions", "word", "many", "params", "told", "clauses", "maker", "one", "k"]) (sc := defScope s_law_program) (by decide +kernel)) (fun _ _ _ _ _ => (pg_name (i := 12) sc_law_program.nd rfl (Or.inl rfl))) (fun _ _ _ _ _ => pts_nil) (fun _ _ _ _ _ => (pe_call G_law_clause hr_law_clause rfl T.m_law_clause T.F_law_clause.kp T.b_law_clause .nil pass0 (pa_cons (pv 0) (pa_cons (pv 3) (pa_cons (pv 6) pa_nil)))))) pa_nil)))
    (pss_one (ps_expr (pe_bm PySem.F.plainAttrs_list PySem.F.slot_list_append PySem.F.type_list_append mt_append (pv 4) (pa_cons (pe_tup (pa_cons (pv 5) (pa_cons (pv 7) (pa_cons (pe_ix ix_tup (pv 8) pe_int (fun _ _ => rfl)) (pa_cons (pe_ix ix_tup (pv 8) pe_int (fun _ _ => rfl)) (pa_cons (pe_call G_law_draw hr_law_draw rfl T.m_law_draw T.F_law_draw.kp T.b_law_draw .nil pass0 (pa_cons (pv 0) (pa_cons pe_int pa_nil))) (pa_cons (pv 9) pa_nil))))))) pa_nil)))))))) pss_nil)))
    (pss_one (ps_ret (pe_tup (pa_cons pe_str (pa_cons (pe_callTy call_tuple_of (by rfl) T.z_tuple (by decide +kernel) (pa_cons (pv 4) pa_nil)) pa_nil))))))))), ?_⟩
    obtain ⟨a, m, f, k, vm, vk, rfl, ea, em, im, ef, ek, ik⟩ := tab_inv hI
    have lM : t.mks.length ≤ 5 := by have := hT.mw.length_le; unfold Tb.mw at this; rw [List.length_map] at this; exact this
    have lC : t.cns.length ≤ 6 := by have := hT.cw.length_le; unfold Tb.cw at this; rw [List.length_map] at this; exact this
    have okW : ∀ z ∈ t.mw, sok z = true := fun z hz => (by decide +kernel : ∀ z ∈ MW, sok z = true) z (hT.mw.subset hz)
    have okC : ∀ z ∈ t.cw, sok z = true := fun z hz => (by decide +kernel : ∀ z ∈ CW, sok z = true) z (hT.cw.subset hz)
    have okF : ∀ z ∈ t.fams, sok z = true := fun z hz => (by decide +kernel : ∀ z ∈ FW, sok z = true) z (hT.fw.subset hz)
    have F5 : t.fams.length ≤ 5 := hT.fw.length_le
    have hlm := im.len
    have hlk := ik.len
    rw [List.length_map] at hlm hlk
    refine ⟨_, rfl, a, _, _, _, rfl, rfl, .inl (.inl ea), atI_nat (j := 1) rfl, m, rfl, ⟨_, .inl (.inl em)⟩, fun D hDn => ?_⟩
    refine lc_tup (K := K) (a := m) (xs := vm) (fun i H' => Same H H' ∧ H' D = some (.lst ((t.mw.take i).map V.str))) ?_ ?_ ?_ ?_
    · exact ⟨same_upd hDn _, upd_same⟩
    · exact fun i H' _ ⟨s, _⟩ => .inl (.inl (s _ _ em))
    · rintro i x H1 hx ⟨s1, e1⟩
      obtain ⟨y, hy, iy⟩ := (im.same s1).get hx
      rw [List.getElem?_map] at hy
      obtain ⟨mk, hmk, rfl⟩ : ∃ mk, t.mks[i]? = some mk ∧ mkP mk = y := by cases h : t.mks[i]? with | none => rw [h] at hy; cases hy | some z => rw [h] at hy; exact ⟨z, rfl, Option.some.inj hy⟩
      obtain ⟨p, us, rfl, ep, iu⟩ := iy.tup_inv
      cases iu with
      | cons h0 _ =>
      cases h0.str_inv
      have hi := (List.getElem?_eq_some_iff.mp hx).1
      refine ⟨rfl, yes_if ⟨_, rfl, p, _, _, _, rfl, rfl, .inl (.inl ep), atI_nat (j := 0) rfl, _, e1, ?_, Kx.Same.own s1 hDn _, ?_⟩⟩
      · rw [List.length_map]; exact small1000 (by have : (t.mw.take i).length ≤ i := List.length_take_le ..; omega)
      · rw [upd_same, List.take_add_one, show t.mw[i]? = some mk.1 by unfold Tb.mw; rw [List.getElem?_map, hmk]; rfl, List.map_append]; rfl
    rintro H1 ⟨s1, e1⟩
    rw [show t.mw.take vm.length = t.mw by rw [hlm, ← List.length_map (f := fun x : Str × Nat => x.1)]; exact List.take_length] at e1
    have D1 := hD.same s1
    refine ⟨_, rfl, a, _, _, _, rfl, rfl, .inl (.inl (s1 _ _ ea)), atI_nat (j := 3) rfl, k, rfl, ⟨_, .inl (.inl (s1 _ _ ek))⟩, fun C hCn => ?_⟩
    refine lc_tup (K := K) (a := k) (xs := vk) (fun i H' => Same H1 H' ∧ H' C = some (.lst ((t.cw.take i).map V.str))) ?_ ?_ ?_ ?_
    · exact ⟨same_upd hCn _, upd_same⟩
    · exact fun i H' _ ⟨s, _⟩ => .inl (.inl (s _ _ (s1 _ _ ek)))
    · rintro i x H2 hx ⟨s2, e2⟩
      obtain ⟨y, hy, iy⟩ := (ik.same (s1.trans s2)).get hx
      rw [List.getElem?_map] at hy
      obtain ⟨mk, hmk, rfl⟩ : ∃ mk, t.cns[i]? = some mk ∧ cnP mk = y := by cases h : t.cns[i]? with | none => rw [h] at hy; cases hy | some z => rw [h] at hy; exact ⟨z, rfl, Option.some.inj hy⟩
      obtain ⟨p, us, rfl, ep, iu⟩ := iy.tup_inv
      cases iu with
      | cons h0 _ =>
      cases h0.str_inv
      have hi := (List.getElem?_eq_some_iff.mp hx).1
      refine ⟨rfl, yes_if ⟨_, rfl, p, _, _, _, rfl, rfl, .inl (.inl ep), atI_nat (j := 0) rfl, _, e2, ?_, Kx.Same.own s2 hCn _, ?_⟩⟩
      · rw [List.length_map]; exact small1000 (by have : (t.cw.take i).length ≤ i := List.length_take_le ..; omega)
      · rw [upd_same, List.take_add_one, show t.cw[i]? = some mk.w by unfold Tb.cw; rw [List.getElem?_map, hmk]; rfl, List.map_append]; rfl
    rintro H2 ⟨s2, e2⟩
    rw [show t.cw.take vk.length = t.cw by rw [hlk, ← List.length_map (f := fun x : Cn => x.w)]; exact List.take_length] at e2
    have D2 := D1.same s2
    obtain ⟨nDd, nDc⟩ := hD.free hDn
    obtain ⟨nCd, nCc⟩ := D1.free hCn
    refine ⟨by decide, fun cl hcl => ?_⟩
    have s3 := same_upd hcl (.lst [])
    obtain ⟨cd, cc⟩ := D2.free hcl
    have s12 := s1.trans s2
    have fcl : H cl = none := s12.free hcl
    have ncl : ∀ {b : Addr} {o : HO}, H2 b = some o → b ≠ cl := fun e q => by rw [q, hcl] at e; cases e
    have D3 := D2.same s3
    refine ⟨(by show 3 ≤ sizeLine; decide), fun p9 hp9 => ⟨p9, rfl, ⟨_, SqL.of upd_same⟩, ?_⟩⟩
    have s9 := same_upd hp9 (.lst (GW.map V.str))
    obtain ⟨p9d, p9c⟩ := D3.free hp9
    have np9 : cl ≠ p9 := ne_of_none upd_same hp9
    have e1' := s2 _ _ e1
    refine for_list (K := K) (a := p9) (xs := GW.map V.str) (fun i σ H' => ∃ (y5 y6 y7 y8 y9 : Option V) (vs : List V) (fs : List Fn), σ = [some (.ref d), some (.ref a), some (.ref D), some (.ref C), some (.ref cl), y5, y6, y7, y8, y9, none, none, none] ∧ Ex d c H H' ∧ Dr H' d c ∧ H' D = some (.lst (t.mw.map V.str)) ∧ H' C = some (.lst (t.cw.map V.str)) ∧ H' p9 = some (.lst (GW.map V.str)) ∧
      H' cl = some (.lst vs) ∧ IsL H' vs (fs.map fnP) ∧ (fs.map (·.w)).Sublist (GW.take i) ∧ ∀ f ∈ fs, FnOkk t f) ?_ ?_ ?_ ?_
    · exact ⟨_, _, _, _, _, [], [], rfl, .of (s12.trans (s3.trans s9)), D3.same s9, s9 _ _ (s3 _ _ e1'), s9 _ _ (s3 _ _ e2), upd_same, s9 _ _ upd_same, .nil, List.nil_sublist _, by simp⟩
    · exact fun i σ H' _ ⟨_, _, _, _, _, _, _, _, _, _, _, _, e, _⟩ => SqL.of e
    · rintro i x σ Ha hx ⟨y5, y6, y7, y8, y9, vs, fs, rfl, xa, Da, eDa, eCa, ep9, ecl, icl, hsub, hf⟩
      obtain ⟨z, hz, rfl⟩ := lit_get hx
      have okz : sok z = true := (by decide +kernel : ∀ z ∈ GW, sok z = true) z (List.mem_of_getElem? hz)
      have base : ∀ {H'}, Ex d c Ha H' → Dr H' d c → H' D = some (.lst (t.mw.map V.str)) ∧ H' C = some (.lst (t.cw.map V.str)) ∧ H' p9 = some (.lst (GW.map V.str)) ∧ H' cl = some (.lst vs) ∧ IsL H' vs (fs.map fnP) := fun {H'} x D' =>
        ⟨x.but _ _ nDd nDc eDa, x.but _ _ nCd nCc eCa, x.but _ _ p9d p9c ep9, x.but _ _ cd cc ecl, icl.ex x Da⟩
      have tb : ∀ {H'}, Ex d c Ha H' → SqT K H' a [.str "table", .ref m, .ref f, .ref k] ∧ SqT K H' f (t.fams.map V.str) := fun {H'} x => ⟨.inl (.inl ((xa.trans x).keep hD ea fun xs q => by cases q)), .inl (.inl ((xa.trans x).keep hD ef fun xs q => by cases q))⟩
      refine ⟨_, rfl, d, c, 3, rfl, Da, by omega, by omega, fun r0 Hb _ _ xb Db => ?_⟩
      obtain ⟨b1, b2, b3, b4, b5⟩ := base xb Db
      have fd : f ≠ d := fun e => by
        obtain ⟨⟨xs, h1⟩, _⟩ := hD.lst
        rw [← e, ef] at h1; cases h1
      have fc : f ≠ c := fun e => by
        obtain ⟨_, ⟨xs, h1⟩⟩ := hD.lst
        rw [← e, ef] at h1; cases h1
      refine ⟨_, _, rfl, rfl, _, rfl, ite2 (fun _ => ?_) (fun _ => ⟨_, _, _, _, _, vs, fs, rfl, xa.trans xb, Db, b1, b2, b3, b4, b5, sub_skip hsub, hf⟩)⟩
      refine ⟨_, rfl, d, c, 3, rfl, Db, by omega, by omega, fun r Hc r0 r3 xc Dc => ⟨_, _, rfl, rfl, ?_⟩⟩
      have xac := xb.trans xc
      obtain ⟨t1, t2⟩ := tb xac
      refine ⟨_, rfl, _, rfl, a, _, _, _, rfl, rfl, t1, atI_nat (j := 2) rfl, _, rfl, (by show 3 ≤ sizeLine; decide), fun pn hpn => ⟨_, rfl, ?_⟩⟩
      have sn := same_upd hpn (.lst (KN.map V.str))
      have xad := xac.trans (.of sn)
      have Dd := Dc.same sn
      obtain ⟨d1, d2, d3, d4, d5⟩ := base xad Dd
      have hn : (1 + r) = ((1 + r).toNat : Int) := by omega
      refine ⟨d, c, f, D, pn, t.fams, t.mw, KN, (1 + r).toNat, congrArg (fun i => [V.ref d, V.ref f, V.ref D, V.ref pn, V.int i]) hn, Dd, .inr (tb xad).2, fd, fc, okF, ⟨d1, nDd, nDc, okW⟩, zl_new (zs := KN) Dc hpn (by decide +kernel), hT.f1, by omega, by unfold Tb.mw; rw [List.length_map]; omega, by decide, by decide, by omega, fun v ks He iv lk hk xe De => ?_⟩
      have xae := xad.trans xe
      refine ⟨_, rfl, _, rfl, a, _, _, _, rfl, rfl, (tb xae).1, atI_nat (j := 2) rfl, _, rfl, (by show 3 ≤ sizeLine; decide), fun pn2 hpn2 => ?_⟩
      have sn2 := same_upd hpn2 (.lst (KN.map V.str))
      have xaf := xae.trans (.of sn2)
      have Df := De.same sn2
      obtain ⟨f1, f2, f3, f4, f5⟩ := base xaf Df
      refine ⟨d, c, f, D, pn2, t.fams, t.mw, KN, 1, rfl, Df, .inr (tb xaf).2, fd, fc, okF, ⟨f1, nDd, nDc, okW⟩, zl_new (zs := KN) De hpn2 (by decide +kernel), hT.f1, by omega, by unfold Tb.mw; rw [List.length_map]; omega, by decide, by decide, by omega, fun v2 ks2 Hg iv2 lk2 hk2 xg Dg => ?_⟩
      obtain ⟨k0, rfl⟩ : ∃ k, ks2 = [k] := by match ks2, lk2 with | [k], _ => exact ⟨k, rfl⟩
      obtain ⟨pa, va, rfl, ea2, ia⟩ := iv2.tup_inv
      obtain ⟨x0, rfl⟩ : ∃ x, va = [x] := by have := ia.len; match va, this with | [x], _ => exact ⟨x, rfl⟩
      cases ia with
      | cons ix0 _ =>
      have xag := xaf.trans xg
      obtain ⟨g1, g2, g3, g4, g5⟩ := base xag Dg
      refine ⟨pa, _, _, _, rfl, rfl, .inl (.inl ea2), atI_nat (j := 0) rfl, ?_⟩
      have evg : Is Hg v (.tup (ks.map kdP)) := (iv.ex (Ex.of sn2) De).ex xg Df
      refine ⟨_, rfl, d, c, 3, rfl, Dg, by omega, by omega, fun r2 Hh q0 q3 xh Dh => ⟨r2, rfl, by omega, by omega, fun L hL => ?_⟩⟩
      have xah := xag.trans xh
      obtain ⟨nLd, nLc⟩ := Dh.free hL
      refine lc_range (lo := 0) (n := r2.toNat) (fun i H' => Ex d c Hh H' ∧ Dr H' d c ∧ ∃ vs, ∃ cs : List Cl, H' L = some (.lst vs) ∧ IsL H' vs (cs.map clP) ∧ (∀ x ∈ cs, ClOk t.cw ks.length x) ∧ cs.length = i) ?_ ?_ ?_
      · exact ⟨.of (same_upd hL _), Dh.own nLd nLc, [], [], upd_same, .nil, by simp, rfl⟩
      · intro i H3 hi ⟨x3, D3, ws, cs, eL, iL, hcs, hl⟩
        obtain ⟨h1, h2, h3, h4, h5⟩ := base (xah.trans x3) D3
        refine ⟨rfl, yes_if ⟨_, rfl, _, rfl, _, rfl, d, c, C, t.cw, (1 + r).toNat, congrArg (fun i => [V.ref d, V.ref C, V.int i]) hn, D3, ⟨h2, nCd, nCc, okC⟩, by unfold Tb.cw; rw [List.length_map]; omega, by omega, fun v ps b H4 iv4 lp hp hb x4 D4 => ?_⟩⟩
        have eL4 := x4.but _ _ nLd nLc eL
        have hlen := iL.len
        rw [List.length_map] at hlen
        refine ⟨ws, eL4, small1000 (by omega), Ex.own (x3.trans x4) hL _, D4.own nLd nLc, ws ++ [v], cs ++ [⟨ps, b⟩], upd_same, ?_, fun x hx => ?_, by rw [List.length_append, hl]; rfl⟩
        · rw [List.map_append]; exact IsL.over eL4 ((iL.ex x4 D3).append (.cons iv4 .nil))
        · rcases List.mem_append.mp hx with h | h
          · exact hcs x h
          · rw [List.mem_singleton.mp h]; exact ⟨by show ps.length = ks.length; omega, hp, hb⟩
      intro H3 ⟨x3, D3, ws, cs, eL, iL, hcs, hl⟩
      refine ⟨L, ws, rfl, .inl ⟨SqL.of eL, fun pc hpc => ?_⟩⟩
      have s4 := same_upd hpc (.tup ws)
      have xai := (xah.trans x3).trans (.of s4)
      have D4 := D3.same s4
      obtain ⟨h1, h2, h3, h4, h5⟩ := base xai D4
      have ex0 : Is (upd H3 pc (.tup ws)) x0 (kdP k0) := ((ix0.ex xh Dg).ex x3 Dh).same s4
      have evi : Is (upd H3 pc (.tup ws)) v (.tup (ks.map kdP)) := ((evg.ex xh Dg).ex x3 Dh).same s4
      obtain ⟨pk, vk2, rfl, ek2, ik2⟩ := ex0.tup_inv
      obtain ⟨u1, u2, rfl⟩ : ∃ a b, vk2 = [a, b] := by have := ik2.len; match vk2, this with | [a, b], _ => exact ⟨a, b, rfl⟩
      have iw : Is (upd H3 pc (.tup ws)) u1 (.str k0.fam) := by cases ik2 with | cons h _ => exact h
      have it : Is (upd H3 pc (.tup ws)) u2 k0.tm := by cases ik2 with | cons _ h => cases h with | cons h _ => exact h
      refine ⟨_, rfl, .inl ⟨rfl, _, SqL.of h4⟩, _, rfl, _, rfl, _, rfl, pk, _, _, _, rfl, rfl, .inl (.inl ek2), atI_nat (j := 0) rfl, _, rfl, pk, _, _, _, rfl, rfl, .inl (.inl ek2), atI_nat (j := 1) rfl, _, rfl, d, c, 100, rfl, D4, by omega, by omega, fun r5 H5 z0 z1 x5 D5 => ⟨_, rfl, (by show 6 ≤ sizeLine; decide), fun p3 hp3 => ?_⟩⟩
      have s6 := same_upd hp3 (.tup [V.str z, v, u1, u2, V.int r5, .ref pc])
      have xaj := (xai.trans x5).trans (.of s6)
      have D6 := D5.same s6
      obtain ⟨j1, j2, j3, j4, j5⟩ := base xaj D6
      have hlen := icl.len
      rw [List.length_map] at hlen
      have l6 : fs.length ≤ 3 := by have := hsub.length_le; rw [List.length_map] at this; have h2 : (GW.take i).length ≤ 3 := List.length_take_le' ..; omega
      have ic : Is (upd H3 pc (.tup ws)) (.ref pc) (.tup (cs.map clP)) := .tup upd_same (iL.same s4)
      refine ⟨cl, vs, _, rfl, rfl, j4, small1000 (by omega), _, _, _, _, _, vs ++ [.ref p3], fs ++ [⟨z, ks, k0, r5.toNat, cs⟩], rfl, Ex.own (xa.trans xaj) fcl _, D6.own cd cc, ?_, ?_, ?_, upd_same, ?_, ?_, fun f' hf' => ?_⟩
      · rw [upd_ne (ncl e1')]; exact j1
      · rw [upd_ne (ncl e2)]; exact j2
      · rw [upd_ne np9.symm]; exact j3
      · rw [List.map_append]
        have i5 : Is (upd H5 p3 (.tup [V.str z, v, u1, u2, V.int r5, .ref pc])) (.ref p3) (fnP ⟨z, ks, k0, r5.toNat, cs⟩) := .tup upd_same (.cons (.str z okz) (.cons ((evi.ex x5 D4).same s6) (.cons ((iw.ex x5 D4).same s6) (.cons ((it.ex x5 D4).same s6) (.cons (by show Is _ (V.int r5) (.int ((r5.toNat : Nat) : Int)); rw [Int.toNat_of_nonneg z0]; exact .int _) (.cons ((ic.ex x5 D4).same s6) .nil))))))
        exact IsL.over j4 (j5.append (.cons i5 .nil))
      · rw [List.map_append]
        exact sub_step hsub hz
      · rcases List.mem_append.mp hf' with h | h
        · exact hf f' h
        · rw [List.mem_singleton.mp h]
          exact ⟨List.mem_of_getElem? hz, hk, by show 1 ≤ ks.length; omega, by show ks.length ≤ 3; omega, hk2 k0 (by simp), by show r5.toNat < 100; omega, hcs, by show cs.length ≤ 2; omega⟩
    · rintro σ Ha ⟨y5, y6, y7, y8, y9, vs, fs, rfl, xa, Da, eDa, eCa, ep9, ecl, icl, hsub, hf⟩
      rw [show (GW.map V.str).length = GW.length from rfl, List.take_length] at hsub
      refine ⟨_, rfl, cl, vs, rfl, .inl ⟨SqL.of ecl, fun l1 hl1 => ⟨(by show 2 ≤ sizeLine; decide), fun p hp => ?_⟩⟩⟩
      have t1 := same_upd hl1 (.tup vs)
      have t2 := same_upd hp (.tup [V.str "program", .ref l1])
      have i1 : Is (upd Ha l1 (.tup vs)) (.ref l1) (.tup (fs.map fnP)) := .tup upd_same (icl.same t1)
      exact q _ fs _ (.tup upd_same (.cons (.str _ (by decide +kernel)) (.cons (i1.same t2) .nil))) hf hsub (xa.trans (.of (t1.trans t2))) ((Da.same t1).same t2)
end
end Kx
set_option maxHeartbeats 1000000
/-! The lines of a table and a program, their tokens. -/
namespace Kx
open PySem PySem.Spec PyProof.Rows L2
/-- texts with a text between -/
def gj (g : List Nat) : List (List Nat) → List Nat
  | [] => []
  | [a] => a
  | a :: b :: r => a ++ (g ++ gj g (b :: r))
theorem gj_sep : ∀ l : List (List Nat), gj [44, 32] l = sepJ l
  | [] => rfl
  | [a] => rfl
  | a :: b :: r => by simp only [gj, sepJ, gj_sep (b :: r)]; rfl
theorem cs_empty : cs Str.empty = [] := rfl
theorem cs_join (g : Str) : ∀ l : List Str, cs (Txt.join g l) = gj (cs g) (l.map cs) := by
  intro l
  show cs (PySem.Builtin.Str.glued g l) = _
  rw [StrLaws.glued_eq_join]
  induction l with
  | nil => rfl
  | cons a r ih =>
    cases r with
    | nil => rfl
    | cons b r =>
      show cs (a ++ g ++ Str.join g (b :: r)) = _
      rw [cs_app, cs_app, ih, List.append_assoc]
      rfl
theorem gj_len (g : List Nat) : ∀ l : List (List Nat), (gj g l).length ≤ (l.map List.length).sum + l.length * g.length
  | [] => by simp [gj]
  | [a] => by simp [gj]
  | a :: b :: r => by
    have := gj_len g (b :: r)
    simp only [gj, List.length_append, List.map_cons, List.sum_cons, List.length_cons, Nat.add_mul, Nat.one_mul] at this ⊢
    omega
def num (n : Nat) : List Nat := cs (toString (n : Int))
def kdT (k : Kd) : List Nat := cs k.fam ++ 40 :: (txt k.tm ++ [41])
def arT (ps : List Kd) (md : Kd) : List Nat := (if ps.isEmpty then [] else sepJ (ps.map kdT) ++ [32]) ++ 45 :: 62 :: 32 :: kdT md
def lineM (m : Str × Nat) : List Nat := cs "maker" ++ 32 :: (cs m.1 ++ 32 :: num m.2)
def lineF (z : Str) : List Nat := cs "family" ++ 32 :: cs z
def lineC (c : Cn) : List Nat := cs "con" ++ 32 :: (cs c.w ++ 32 :: 58 :: 32 :: arT c.ps c.md)
def lineH (f : Fn) : List Nat := cs "fun" ++ 32 :: (cs f.w ++ 32 :: (cs "falls" ++ 32 :: (num f.falls ++ 32 :: 58 :: 32 :: arT f.ps f.md)))
def lineL (w : Str) (c : Cl) : List Nat := cs w ++ 40 :: (sepJ (c.ps.map txt) ++ 41 :: 32 :: 61 :: 32 :: txt c.b)
def linesF (fs : List Fn) : List (List Nat) := fs.flatMap fun f => lineH f :: f.cls.map (lineL f.w)
def lines (t : Tb) (fs : List Fn) : List (List Nat) := t.mks.map lineM ++ (t.fams.map lineF ++ (t.cns.map lineC ++ linesF fs))
/-! ### words and numbers -/
theorem wd_MW : ∀ z ∈ MW, WdP (cs z) := by decide +kernel
theorem wd_FW : ∀ z ∈ FW, WdP (cs z) := by decide +kernel
theorem wd_CW : ∀ z ∈ CW, WdP (cs z) := by decide +kernel
theorem wd_GW : ∀ z ∈ GW, WdP (cs z) := by decide +kernel
theorem wd_KN : ∀ z ∈ KN, WdP (cs z) := by decide +kernel
theorem wd_CN : ∀ z ∈ CN, WdP (cs z) := by decide +kernel
theorem wd_num : ∀ n : Nat, n < 100 → WdP (num n) := by decide +kernel
theorem num_len : ∀ n : Nat, n < 100 → (num n).length ≤ 2 := by decide +kernel
theorem nw_lt : ∀ n ∈ NW, n < 100 := by decide
theorem kd_wd {F L : List Str} (hF : ∀ z ∈ F, z ∈ FW) (hL : ∀ z ∈ L, z ∈ MW) {k : Kd} (h : KdOk F L KN k) : WdP (cs k.fam) ∧ Pc (txt k.tm) (tokT k.tm) ∧ Ok (txt k.tm) ∧ (txt k.tm).length ≤ 23 ∧ opn (tokT k.tm) ≤ 1 ∧ k.fam.length ≤ 6 := by
  have h1 : ∀ z ∈ L, WdP (cs z) := fun z hz => wd_MW z (hL z hz)
  have h2 : ∀ z ∈ L ++ (["other"] : List Str), WdP (cs z) := fun z hz => (List.mem_append.mp hz).elim (h1 z) fun h => by rw [List.mem_singleton.mp h]; decide +kernel
  have l1 : ∀ z ∈ L, z.length ≤ 4 := fun z hz => (by decide +kernel : ∀ z ∈ MW, z.length ≤ 4) z (hL z hz)
  have l2 : ∀ z ∈ L ++ (["other"] : List Str), z.length ≤ 5 := fun z hz => (List.mem_append.mp hz).elim (fun h => Nat.le_succ_of_le (l1 z h)) fun h => by rw [List.mem_singleton.mp h]; decide +kernel
  exact ⟨wd_FW _ (hF _ h.1), h.2.pc h1 wd_KN h2, h.2.ok h1 wd_KN h2, h.2.len (a := 4) (b := 5) l1 (by decide +kernel) l2, h.2.opn h1 wd_KN h2, (by decide +kernel : ∀ z ∈ FW, z.length ≤ 6) _ (hF _ h.1)⟩
theorem kd_len {F L : List Str} (hF : ∀ z ∈ F, z ∈ FW) (hL : ∀ z ∈ L, z ∈ MW) {k : Kd} (h : KdOk F L KN k) : (kdT k).length ≤ 31 := by
  obtain ⟨_, _, _, a, _, b⟩ := kd_wd hF hL h
  simp only [kdT, List.length_append, List.length_cons, List.length_nil, cs_len]
  omega
def tokK (k : Kd) : List (List Nat) := cs k.fam :: [40] :: (tokT k.tm ++ [[41]])
theorem kd_pc {F L : List Str} (hF : ∀ z ∈ F, z ∈ FW) (hL : ∀ z ∈ L, z ∈ MW) {k : Kd} (h : KdOk F L KN k) : Pc (kdT k) (tokK k) := by
  obtain ⟨a, b, _⟩ := kd_wd hF hL h
  exact Pc.par a b
theorem kd_ok {F L : List Str} (hF : ∀ z ∈ F, z ∈ FW) (hL : ∀ z ∈ L, z ∈ MW) {k : Kd} (h : KdOk F L KN k) : Ok (kdT k) := by
  obtain ⟨a, _, b, _⟩ := kd_wd hF hL h
  exact .app a.2.2 (.cons (by decide) (.app b (.cons (by decide) .nil)))
theorem kd_opn {F L : List Str} (hF : ∀ z ∈ F, z ∈ FW) (hL : ∀ z ∈ L, z ∈ MW) {k : Kd} (h : KdOk F L KN k) : opn (tokK k) ≤ 2 := by
  obtain ⟨a, _, _, _, b, _⟩ := kd_wd hF hL h
  unfold tokK
  rw [opn_cons (wd_no a)]
  have e : opn ([40] :: (tokT k.tm ++ [[41]])) = opn (tokT k.tm ++ [[41]]) + 1 := by unfold opn; rw [List.count_cons]; rfl
  rw [e, opn_app, show opn [[41]] = 0 by decide]
  omega
def arTok (ps : List Kd) (md : Kd) : List (List Nat) := sepT (ps.map tokK) ++ [45, 62] :: tokK md
theorem Pc.nil : Pc [] [] := fun l U s t => t
theorem toks_end {x : List Nat} {T : List (List Nat)} (h : Pc x T) : Toks x T := by
  have := h [] [] stp_nil .nil
  simpa using this
theorem ar_toks {F L : List Str} (hF : ∀ z ∈ F, z ∈ FW) (hL : ∀ z ∈ L, z ∈ MW) {ps : List Kd} {md : Kd} (h : ∀ k ∈ ps, KdOk F L KN k) (hm : KdOk F L KN md) : Toks (arT ps md) (arTok ps md) := by
  have h1 : Toks (45 :: 62 :: 32 :: kdT md) ([45, 62] :: tokK md) := .arrow (.sp (toks_end (kd_pc hF hL hm)))
  have pr : ∀ {r : List Kd}, (∀ k ∈ r, KdOk F L KN k) → Paired Pc (r.map kdT) (r.map tokK) := by
    intro r
    induction r with
    | nil => intro _; exact .nil
    | cons a r ih => intro h; exact .cons (kd_pc hF hL (h a (List.mem_cons_self ..))) (ih fun k hk => h k (List.mem_cons_of_mem _ hk))
  cases ps with
  | nil => exact h1
  | cons p r =>
    have := Pc.sep (pr h) (32 :: (45 :: 62 :: 32 :: kdT md)) ([45, 62] :: tokK md) (stp_cons al_32) (.sp h1)
    simpa only [arT, arTok, List.isEmpty_cons, Bool.false_eq_true, if_false, List.append_assoc, List.cons_append, List.nil_append] using this
theorem ar_len {F L : List Str} (hF : ∀ z ∈ F, z ∈ FW) (hL : ∀ z ∈ L, z ∈ MW) {ps : List Kd} {md : Kd} (h : ∀ k ∈ ps, KdOk F L KN k) (hm : KdOk F L KN md) (l : ps.length ≤ 3) : (arT ps md).length ≤ 132 := by
  have h1 := kd_len hF hL hm
  have h2 := sepJ_len (ps.map kdT) 31 fun x hx => by obtain ⟨k, hk, rfl⟩ := List.mem_map.mp hx; exact kd_len hF hL (h k hk)
  rw [List.length_map] at h2
  have h3 : ps.length * 31 ≤ 3 * 31 := Nat.mul_le_mul_right _ l
  unfold arT
  split <;> simp only [List.length_append, List.length_cons, List.length_nil] <;> omega
theorem ar_ok {F L : List Str} (hF : ∀ z ∈ F, z ∈ FW) (hL : ∀ z ∈ L, z ∈ MW) {ps : List Kd} {md : Kd} (h : ∀ k ∈ ps, KdOk F L KN k) (hm : KdOk F L KN md) : Ok (arT ps md) := by
  have h1 : Ok (45 :: 62 :: 32 :: kdT md) := .cons (by decide) (.cons (by decide) (.cons (by decide) (kd_ok hF hL hm)))
  have h2 : Ok (sepJ (ps.map kdT)) := .sep fun x hx => by obtain ⟨k, hk, rfl⟩ := List.mem_map.mp hx; exact kd_ok hF hL (h k hk)
  unfold arT
  split
  · exact h1
  · exact .app (.app h2 (.cons (by decide) .nil)) h1
theorem ar_opn {F L : List Str} (hF : ∀ z ∈ F, z ∈ FW) (hL : ∀ z ∈ L, z ∈ MW) {ps : List Kd} {md : Kd} (h : ∀ k ∈ ps, KdOk F L KN k) (hm : KdOk F L KN md) (l : ps.length ≤ 3) : opn (arTok ps md) ≤ 8 := by
  have h1 := kd_opn hF hL hm
  have h2 := opn_sep (xs := ps.map tokK) (c := 2) fun x hx => by obtain ⟨k, hk, rfl⟩ := List.mem_map.mp hx; exact kd_opn hF hL (h k hk)
  rw [List.length_map] at h2
  unfold arTok
  rw [opn_app, opn_cons (by decide)]
  omega
/-- a line: its signs, its tokens, its length -/
structure LnOk (x : List Nat) (T : List (List Nat)) (n : Nat) : Prop where
  tk : Toks x T
  ok : Ok x
  len : x.length ≤ n
  op : opn T ≤ 40
def tokM (m : Str × Nat) : List (List Nat) := [cs "maker", cs m.1, num m.2]
def tokF (z : Str) : List (List Nat) := [cs "family", cs z]
def tokC (c : Cn) : List (List Nat) := cs "con" :: cs c.w :: [58] :: arTok c.ps c.md
def tokH (f : Fn) : List (List Nat) := cs "fun" :: cs f.w :: cs "falls" :: num f.falls :: [58] :: arTok f.ps f.md
def tokL (w : Str) (c : Cl) : List (List Nat) := cs w :: [40] :: (sepT (c.ps.map tokT) ++ [41] :: [61] :: tokT c.b)
theorem wd_maker : WdP (cs "maker") := by decide +kernel
theorem wd_family : WdP (cs "family") := by decide +kernel
theorem wd_con : WdP (cs "con") := by decide +kernel
theorem wd_fun : WdP (cs "fun") := by decide +kernel
theorem wd_falls : WdP (cs "falls") := by decide +kernel
theorem lnM {m : Str × Nat} (h1 : m.1 ∈ MW) (h2 : m.2 ∈ NW) : LnOk (lineM m) (tokM m) 13 := by
  have w := wd_MW _ h1
  have n := wd_num _ (nw_lt _ h2)
  refine ⟨?_, ?_, ?_, ?_⟩
  · exact Toks.wd wd_maker (stp_cons al_32) (.sp (Toks.wd w (stp_cons al_32) (.sp (toks_end (Pc.wd n)))))
  · exact .app wd_maker.2.2 (.cons (by decide) (.app w.2.2 (.cons (by decide) n.2.2)))
  · have := num_len _ (nw_lt _ h2)
    have l := (by decide +kernel : ∀ z ∈ MW, z.length ≤ 4) _ h1
    have l2 : (cs "maker").length = 5 := by decide
    simp only [lineM, List.length_append, List.length_cons, l2, cs_len]
    omega
  · unfold tokM
    rw [opn_cons (wd_no wd_maker), opn_cons (wd_no w), opn_cons (wd_no n)]
    decide
theorem lnF {z : Str} (h1 : z ∈ FW) : LnOk (lineF z) (tokF z) 13 := by
  have w := wd_FW _ h1
  refine ⟨?_, ?_, ?_, ?_⟩
  · exact Toks.wd wd_family (stp_cons al_32) (.sp (toks_end (Pc.wd w)))
  · exact .app wd_family.2.2 (.cons (by decide) w.2.2)
  · have l := (by decide +kernel : ∀ z ∈ FW, z.length ≤ 6) _ h1
    have l2 : (cs "family").length = 6 := by decide
    simp only [lineF, List.length_append, List.length_cons, l2, cs_len]
    omega
  · unfold tokF
    rw [opn_cons (wd_no wd_family), opn_cons (wd_no w)]
    decide
theorem Toks.c58 {l : List Nat} {T : List (List Nat)} (t : Toks l T) : Toks (58 :: l) ([58] :: T) := .sign al_58 (by decide) (by decide) t
theorem Toks.c61 {l : List Nat} {T : List (List Nat)} (t : Toks l T) : Toks (61 :: l) ([61] :: T) := .sign al_61 (by decide) (by decide) t
theorem lnC {F L : List Str} (hF : ∀ z ∈ F, z ∈ FW) (hL : ∀ z ∈ L, z ∈ MW) {c : Cn} (h : CnOk F L c) : LnOk (lineC c) (tokC c) 151 := by
  have w := wd_CW _ h.w
  refine ⟨?_, ?_, ?_, ?_⟩
  · exact Toks.wd wd_con (stp_cons al_32) (.sp (Toks.wd w (stp_cons al_32) (.sp (.c58 (.sp (ar_toks hF hL h.ps h.md))))))
  · exact .app wd_con.2.2 (.cons (by decide) (.app w.2.2 (.cons (by decide) (.cons (by decide) (.cons (by decide) (ar_ok hF hL h.ps h.md))))))
  · have := ar_len hF hL h.ps h.md h.l3
    have l := (by decide +kernel : ∀ z ∈ CW, z.length ≤ 12) _ h.w
    have l2 : (cs "con").length = 3 := by decide
    simp only [lineC, List.length_append, List.length_cons, l2, cs_len]
    omega
  · have := ar_opn hF hL h.ps h.md h.l3
    unfold tokC
    rw [opn_cons (wd_no wd_con), opn_cons (wd_no w), opn_cons (by decide)]
    omega
theorem lnH {t : Tb} (hF : ∀ z ∈ t.fams, z ∈ FW) (hL : ∀ z ∈ t.mw, z ∈ MW) {f : Fn} (h : FnOkk t f) : LnOk (lineH f) (tokH f) 153 := by
  have w := wd_GW _ h.w
  have n := wd_num _ h.falls
  refine ⟨?_, ?_, ?_, ?_⟩
  · exact Toks.wd wd_fun (stp_cons al_32) (.sp (Toks.wd w (stp_cons al_32) (.sp (Toks.wd wd_falls (stp_cons al_32) (.sp (Toks.wd n (stp_cons al_32) (.sp (.c58 (.sp (ar_toks hF hL h.ps h.md))))))))))
  · exact .app wd_fun.2.2 (.cons (by decide) (.app w.2.2 (.cons (by decide) (.app wd_falls.2.2 (.cons (by decide) (.app n.2.2 (.cons (by decide) (.cons (by decide) (.cons (by decide) (ar_ok hF hL h.ps h.md))))))))))
  · have := ar_len hF hL h.ps h.md h.l3
    have l := (by decide +kernel : ∀ z ∈ GW, z.length ≤ 5) _ h.w
    have l2 : (cs "fun").length = 3 := by decide
    have l3 : (cs "falls").length = 5 := by decide
    have l4 := num_len _ h.falls
    simp only [lineH, List.length_append, List.length_cons, l2, l3, cs_len]
    omega
  · have := ar_opn hF hL h.ps h.md h.l3
    unfold tokH
    rw [opn_cons (wd_no wd_fun), opn_cons (wd_no w), opn_cons (wd_no wd_falls), opn_cons (wd_no n), opn_cons (by decide)]
    omega
theorem cl_pc {C M : List Str} (hC : ∀ z ∈ C, z ∈ CW) (hM : ∀ z ∈ M, WdP (cs z) ∧ z.length ≤ 12) {p : PV} (h : Tr C CN (C ++ M) 2 p) : Pc (txt p) (tokT p) ∧ Ok (txt p) ∧ (txt p).length ≤ 180 ∧ opn (tokT p) ≤ 4 := by
  have h1 : ∀ z ∈ C, WdP (cs z) := fun z hz => wd_CW z (hC z hz)
  have h2 : ∀ z ∈ C ++ M, WdP (cs z) := fun z hz => (List.mem_append.mp hz).elim (h1 z) fun h => (hM z h).1
  have l1 : ∀ z ∈ C, z.length ≤ 12 := fun z hz => (by decide +kernel : ∀ z ∈ CW, z.length ≤ 12) z (hC z hz)
  have l2 : ∀ z ∈ C ++ M, z.length ≤ 12 := fun z hz => (List.mem_append.mp hz).elim (l1 z) fun h => (hM z h).2
  exact ⟨h.pc h1 wd_CN h2, h.ok h1 wd_CN h2, h.len (a := 12) (b := 12) l1 (by decide +kernel) l2, h.opn h1 wd_CN h2⟩
theorem lnL {C : List Str} (hC : ∀ z ∈ C, z ∈ CW) {w : Str} {n : Nat} {c : Cl} (hw : w ∈ GW) (h : ClOk C n c) (n3 : n ≤ 3) : LnOk (lineL w c) (tokL w c) 734 := by
  have w' := wd_GW _ hw
  have P : ∀ p ∈ c.ps, _ := fun p hp => cl_pc hC (M := ["Other"]) (by decide +kernel) (h.ps p hp)
  have B := cl_pc hC (M := ["f", "g", "con"]) (by decide +kernel) h.b
  have l3 : c.ps.length ≤ 3 := by rw [h.l]; exact n3
  refine ⟨?_, ?_, ?_, ?_⟩
  · have pr : ∀ {r : List PV}, (∀ p ∈ r, Pc (txt p) (tokT p)) → Paired Pc (r.map txt) (r.map tokT) := by
      intro r
      induction r with
      | nil => intro _; exact .nil
      | cons a r ih => intro h; exact .cons (h a (List.mem_cons_self ..)) (ih fun k hk => h k (List.mem_cons_of_mem _ hk))
    have := Pc.sep (pr fun p hp => (P p hp).1) (41 :: 32 :: 61 :: 32 :: txt c.b) ([41] :: [61] :: tokT c.b) (stp_cons al_41) (.cl (.sp (.c61 (.sp (toks_end B.1)))))
    exact Toks.wd w' (stp_cons al_40) (.op this)
  · exact .app w'.2.2 (.cons (by decide) (.app (.sep fun x hx => by obtain ⟨p, hp, rfl⟩ := List.mem_map.mp hx; exact (P p hp).2.1) (.cons (by decide) (.cons (by decide) (.cons (by decide) (.cons (by decide) B.2.1))))))
  · have h2 := sepJ_len (c.ps.map txt) 180 fun x hx => by obtain ⟨p, hp, rfl⟩ := List.mem_map.mp hx; exact (P p hp).2.2.1
    rw [List.length_map] at h2
    have h3 : c.ps.length * 180 ≤ 3 * 180 := Nat.mul_le_mul_right _ l3
    have l := (by decide +kernel : ∀ z ∈ GW, z.length ≤ 5) _ hw
    have h4 := B.2.2.1
    simp only [lineL, List.length_append, List.length_cons, cs_len]
    omega
  · have h2 := opn_sep (xs := c.ps.map tokT) (c := 4) fun x hx => by obtain ⟨p, hp, rfl⟩ := List.mem_map.mp hx; exact (P p hp).2.2.2
    rw [List.length_map] at h2
    have h4 := B.2.2.2
    have e : opn ([40] :: (sepT (c.ps.map tokT) ++ [41] :: [61] :: tokT c.b)) = opn (sepT (c.ps.map tokT) ++ [41] :: [61] :: tokT c.b) + 1 := by unfold opn; rw [List.count_cons]; rfl
    unfold tokL
    rw [opn_cons (wd_no w'), e, opn_app, opn_cons (by decide), opn_cons (by decide)]
    omega
end Kx
namespace Kx
open PySem PySem.Spec PyProof.Rows L2
section
variable {P : Program} {w : World} {K : PySem.W.Frag} {mg : Str → Option Value} {base : Heap}
set_option pp.maxSteps 1500
/-! ### expressions that make texts -/
def SV (l : List Nat) : V := .str (mkS l)
theorem slen (a b : Str) : (a ++ b).length = a.length + b.length := by rw [← cs_len, cs_app, List.length_append, cs_len, cs_len]
theorem small7 {n : Nat} (h : n ≤ 20000) : n ≤ sizeLine := by rw [sizeLine_eq]; omega
theorem sqt_same {K : PySem.W.Frag} {H H' : Hp} {a : Addr} {xs : List V} (s : Same H H') (h : SqT K H a xs) : SqT K H' a xs := by
  rcases h with (e | ⟨o, e⟩) | e
  · exact .inl (.inl (s _ _ e))
  · exact .inl (.inr ⟨o, s _ _ e⟩)
  · exact .inr e
def rAddS : R2 := fun x y H Q => ∃ i j, x = .str i ∧ y = .str j ∧ i.length + j.length ≤ sizeLine ∧ Q (.str (i ++ j)) H
def TxE (σ : L2.St) (H0 : Hp) (te : TE) (l : List Nat) : Prop := ∀ (H : Hp) (Q : VK), Same H0 H → (∀ H', Same H H' → Q (SV l) H') → te σ H Q
def LxE (σ : L2.St) (H0 : Hp) (te : TE) (ls : List (List Nat)) : Prop := ∀ (H : Hp) (Q : VK), Same H0 H → (∀ p H', Same H H' → H' p = some (.lst (ls.map SV)) → Q (.ref p) H') → te σ H Q
def TlE (K : PySem.W.Frag) (σ : L2.St) (H0 : Hp) (te : TE) (xs : List V) : Prop := ∀ (H : Hp) (Q : VK), Same H0 H → (∀ a H', Same H H' → SqT K H' a xs → Q (.ref a) H') → te σ H Q
theorem TxE.to {σ : L2.St} {H0 : Hp} {te : TE} {l l2 : List Nat} (h : TxE σ H0 te l) (e : l = l2) : TxE σ H0 te l2 := e ▸ h
theorem TxE.same {σ : L2.St} {H0 H1 : Hp} {te : TE} {l : List Nat} (h : TxE σ H0 te l) (s : Same H0 H1) : TxE σ H1 te l := fun H Q s2 q => h H Q (s.trans s2) q
theorem tx_lit {σ : L2.St} {H0 : Hp} {z : Str} : TxE σ H0 (tC (.str z)) (cs z) := fun H Q s q => by
  have := q H (.refl _)
  unfold SV at this
  rw [mk_cs] at this
  exact this
theorem tx_var {σ : L2.St} {H0 : Hp} {i : Nat} {l : List Nat} (e : σ[i]? = some (some (SV l))) : TxE σ H0 (tVar i) l := fun H Q s q => ⟨_, e, q H (.refl _)⟩
theorem tx_varS {σ : L2.St} {H0 : Hp} {i : Nat} {z : Str} (e : σ[i]? = some (some (.str z))) : TxE σ H0 (tVar i) (cs z) := tx_var (by rw [e]; unfold SV; rw [mk_cs])
theorem tx_add {σ : L2.St} {H0 : Hp} {ta tb : TE} {a b : List Nat} (ha : TxE σ H0 ta a) (hb : TxE σ H0 tb b) (l : a.length + b.length ≤ 20000) : TxE σ H0 (tOp rAddS ta tb) (a ++ b) := fun H Q s q =>
  ha H _ s fun H1 s1 => hb H1 _ (s.trans s1) fun H2 s2 => ⟨_, _, rfl, rfl, by rw [mk_len, mk_len]; exact small7 l, by rw [mk_app]; exact q H2 (s1.trans s2)⟩
def rJoinS (K : PySem.W.Frag) : V → List V → Hp → VK → Prop := fun x xs H Q => ∃ a p, ∃ ys : List Str, x = .str a ∧ xs = [.ref p] ∧ (SqL K H p (ys.map V.str) ∨ SqT K H p (ys.map V.str)) ∧ (ys.map (·.length)).sum + ys.length * a.length ≤ 16777216 ∧ Q (.str (Txt.join a ys)) H
theorem tx_join {K : PySem.W.Frag} {σ : L2.St} {H0 : Hp} {g : Str} {te : TE} {ls : List (List Nat)} (h : LxE σ H0 te ls) (l : (ls.map List.length).sum + ls.length * g.length ≤ 16777216) : TxE σ H0 (tM1 (rJoinS K) (tC (.str g)) te) (gj (cs g) ls) := fun H Q s q =>
  ⟨⟨_, rfl⟩, h H _ s fun p H1 s1 e1 => ⟨g, p, ls.map mkS, rfl, rfl, .inl (SqL.of (by rw [List.map_map]; exact e1)), by
    rw [List.map_map, List.length_map]
    have : (List.map ((fun x : Str => x.length) ∘ mkS) ls) = ls.map List.length := List.map_congr_left fun x _ => mk_len x
    rw [this]; exact l, by
    have e : Txt.join g (ls.map mkS) = mkS (gj (cs g) ls) := cs_inj (by
      rw [cs_join, cs_mk, List.map_map]
      congr 1
      exact (List.map_congr_left (g := fun x => x) fun x _ => cs_mk x).trans (List.map_id' ls))
    rw [e]; exact q H1 s1⟩⟩
theorem tl_var {K : PySem.W.Frag} {σ : L2.St} {H0 : Hp} {i : Nat} {a : Addr} {xs : List V} (e : σ[i]? = some (some (.ref a))) (h : SqT K H0 a xs) : TlE K σ H0 (tVar i) xs := fun H Q s q => ⟨_, e, q a H (.refl _) (sqt_same s h)⟩
/-- a list of the texts of a tuple's items -/
theorem lx_lcT {K : PySem.W.Frag} {σ : L2.St} {H0 : Hp} {tl te : TE} {xs : List V} {L : List (List Nat)} {k : Nat} (ht : TlE K σ H0 tl xs) (hl : L.length = xs.length) (hb : xs.length ≤ 1000)
    (hs : ∀ (i : Nat) (x : V) (y : List Nat) (H' : Hp), xs[i]? = some x → L[i]? = some y → Same H0 H' → TxE ((σ.set k none).set k (some x)) H' te y) :
    LxE σ H0 (tLc (iTup K tl) (gName k) tYes te [k]) L := fun H Q s q => by
  refine ht H _ s fun a H1 s1 ha => ⟨a, rfl, ⟨xs, ha⟩, fun D hD => ?_⟩
  refine lc_tup (K := K) (a := a) (xs := xs) (fun i H4 => Same H1 H4 ∧ H4 D = some (.lst ((L.take i).map SV))) ?_ ?_ ?_ ?_
  · exact ⟨same_upd hD _, upd_same⟩
  · exact fun i H' _ ⟨s, _⟩ => sqt_same s ha
  · rintro i x H4 hx ⟨s4, e4⟩
    have hi := (List.getElem?_eq_some_iff.mp hx).1
    have hy : L[i]? = some (L[i]'(by omega)) := List.getElem?_eq_getElem _
    refine ⟨by show ((σ.set k none).set k (some x)).set k none = σ.set k none; simp only [List.set_set], yes_if ?_⟩
    refine hs i x _ H4 hx hy ((s.trans s1).trans s4) H4 _ (.refl _) fun H5 s5 => ⟨_, s5 _ _ e4, ?_, Kx.Same.own (s4.trans s5) hD _, ?_⟩
    · rw [List.length_map]; exact small1000 (by have : (L.take i).length ≤ i := List.length_take_le ..; omega)
    · rw [upd_same, List.take_add_one, hy, List.map_append]; rfl
  · rintro H4 ⟨s4, e4⟩
    rw [← hl, List.take_length] at e4
    exact q D H4 (s1.trans s4) e4
/-- the same over a list or a tuple -/
theorem lx_lcS {K : PySem.W.Frag} {σ : L2.St} {H0 : Hp} {te : TE} {a : Addr} {xs : List V} {L : List (List Nat)} {j k : Nat} (e : σ[j]? = some (some (.ref a))) (ha : SqL K H0 a xs ∨ SqT K H0 a xs) (hl : L.length = xs.length) (hb : xs.length ≤ 1000)
    (hs : ∀ (i : Nat) (x : V) (y : List Nat) (H' : Hp), xs[i]? = some x → L[i]? = some y → Same H0 H' → TxE ((σ.set k none).set k (some x)) H' te y) :
    LxE σ H0 (tLc (iSeq K (tVar j)) (gName k) tYes te [k]) L := fun H Q s q => by
  have step : ∀ (D : Addr) (i : Nat) (x : V) (H4 : Hp), H D = none → xs[i]? = some x → Same H H4 ∧ H4 D = some (.lst ((L.take i).map SV)) → gName k x (wipe σ [k]) H4 fun σ2 H2 => wipe σ2 [k] = wipe σ [k] ∧ tYes σ2 H2 fun b H3 =>
      if b = true then te σ2 H3 fun y H4 => ∃ acc, H4 D = some (.lst acc) ∧ acc.length < sizeLine ∧ (Same H (upd H4 D (.lst (acc ++ [y]))) ∧ (upd H4 D (.lst (acc ++ [y]))) D = some (.lst ((L.take (i + 1)).map SV))) else (Same H H3 ∧ H3 D = some (.lst ((L.take (i + 1)).map SV))) := by
    rintro D i x H4 hD hx ⟨s4, e4⟩
    have hi := (List.getElem?_eq_some_iff.mp hx).1
    have hy : L[i]? = some (L[i]'(by omega)) := List.getElem?_eq_getElem _
    refine ⟨by show ((σ.set k none).set k (some x)).set k none = σ.set k none; simp only [List.set_set], yes_if ?_⟩
    refine hs i x _ H4 hx hy (s.trans s4) H4 _ (.refl _) fun H5 s5 => ⟨_, s5 _ _ e4, ?_, Kx.Same.own (s4.trans s5) hD _, ?_⟩
    · rw [List.length_map]; exact small1000 (by have : (L.take i).length ≤ i := List.length_take_le ..; omega)
    · rw [upd_same, List.take_add_one, hy, List.map_append]; rfl
  rcases ha with ha | ha
  · refine ⟨_, e, a, rfl, .inl ⟨⟨xs, s.seq ha⟩, fun D hD => ?_⟩⟩
    refine lc_list (K := K) (a := a) (xs := xs) (fun i H4 => Same H H4 ∧ H4 D = some (.lst ((L.take i).map SV))) ⟨same_upd hD _, upd_same⟩ (fun i H' _ ⟨s2, _⟩ => (s.trans s2).seq ha) (fun i x H4 hx p => step D i x H4 hD hx p) ?_
    rintro H4 ⟨s4, e4⟩
    rw [← hl, List.take_length] at e4
    exact q D H4 s4 e4
  · refine ⟨_, e, a, rfl, .inr ⟨⟨xs, sqt_same s ha⟩, fun D hD => ?_⟩⟩
    refine lc_tup (K := K) (a := a) (xs := xs) (fun i H4 => Same H H4 ∧ H4 D = some (.lst ((L.take i).map SV))) ⟨same_upd hD _, upd_same⟩ (fun i H' _ ⟨s2, _⟩ => sqt_same (s.trans s2) ha) (fun i x H4 hx p => step D i x H4 hD hx p) ?_
    rintro H4 ⟨s4, e4⟩
    rw [← hl, List.take_length] at e4
    exact q D H4 s4 e4
theorem tx_ixT {K : PySem.W.Frag} {σ : L2.St} {H0 : Hp} {i j : Nat} {a : Addr} {w : Str} {xs : List V} (e : σ[i]? = some (some (.ref a))) (h : SqT K H0 a xs) (g : xs[j]? = some (.str w)) : TxE σ H0 (tOp (rIxT K) (tVar i) (tC (.int j))) (cs w) := fun H Q s q =>
  ⟨_, e, a, _, _, _, rfl, rfl, sqt_same s h, atI_nat g, by have := q H (.refl _); unfold SV at this; rw [mk_cs] at this; exact this⟩
def TrG (n : Nat) (t : PV) : Prop := ∃ (L N B : List Str) (m : Nat), m < n ∧ m ≤ 2 ∧ Tr L N B m t ∧ (∀ z ∈ L, z.length ≤ 12) ∧ (∀ z ∈ N, z.length ≤ 12) ∧ ∀ z ∈ B, z.length ≤ 12
theorem slice1 {x : V} {vs : List V} : ¬ (HT.sIx (x :: vs).length 0 (some (1 : Int)) = 0 ∧ HT.sIx (x :: vs).length (x :: vs).length none = (x :: vs).length) := by
  intro e
  have h := e.1
  rw [show (1 : Int) = ((1 : Nat) : Int) from rfl, HT.sIx_nat, List.length_cons] at h
  omega
theorem cut_from (xs : List V) {k : Nat} (h : k ≤ xs.length) : cutV xs (some (k : Int)) none = xs.drop k := by
  unfold cutV
  rw [HT.sIx_nat, HT.sIx_none, Nat.min_eq_left h, List.take_of_length_le (by rw [List.length_drop]; exact Nat.le_refl _)]
theorem cut1 {x : V} {vs : List V} : cutV (x :: vs) (some (1 : Int)) none = vs := cut_from (k := 1) (x :: vs) (by rw [List.length_cons]; omega)
theorem TxE.go {σ : L2.St} {H : Hp} {te : TE} {l : List Nat} {Q : VK} (h : TxE σ H te l) (q : ∀ H', Same H H' → Q (SV l) H') : te σ H Q := h H Q (.refl _) q
theorem tx_ix0 {K : PySem.W.Frag} {σ : L2.St} {H0 : Hp} {i : Nat} {a : Addr} {w : Str} {xs : List V} (e : σ[i]? = some (some (.ref a))) (h : SqT K H0 a (.str w :: xs)) : TxE σ H0 (tOp (rIx K) (tVar i) (tC (.int 0))) (cs w) := fun H Q s q =>
  ⟨_, e, .inr (.inl ⟨a, _, _, _, rfl, rfl, sqt_same s h, atI_nat (j := 0) rfl, by have := q H (.refl _); unfold SV at this; rw [mk_cs] at this; exact this⟩)⟩
theorem tl_drop1 {K : PySem.W.Frag} {σ : L2.St} {H0 : Hp} {i : Nat} {a : Addr} {x : V} {xs : List V} (e : σ[i]? = some (some (.ref a))) (h : SqT K H0 a (x :: xs)) : TlE K σ H0 (tSl (rSlT K) (tVar i) (tPart (tC (.int 1))) tNoPart) xs := fun H Q s q =>
  ⟨_, e, 1, rfl, a, x :: xs, rfl, sqt_same s h, slice1, fun p hp => q p _ (same_upd hp _) (by rw [cut1]; exact .inl (.inl upd_same))⟩
theorem sum_le {l : List (List Nat)} {c : Nat} (h : ∀ x ∈ l, x.length ≤ c) : (l.map List.length).sum ≤ l.length * c := by
  induction l with
  | nil => simp
  | cons a r ih =>
    have h1 := h a (List.mem_cons_self ..)
    have h2 := ih fun x hx => h x (List.mem_cons_of_mem _ hx)
    rw [List.map_cons, List.sum_cons, List.length_cons, Nat.add_mul, Nat.one_mul]
    omega
theorem bd_le : ∀ m, m ≤ 2 → Bd 12 12 m ≤ 180 := by decide
theorem TrG.len {n : Nat} {t : PV} (h : TrG n t) : (txt t).length ≤ 180 := by
  obtain ⟨L, N, B, m, _, m2, h, a, b, c⟩ := h
  exact Nat.le_trans (h.len a b c) (bd_le m m2)
theorem TrG.up {n k : Nat} {t : PV} (h : TrG n t) (l : n ≤ k) : TrG k t := by
  obtain ⟨L, N, B, m, a, b⟩ := h
  exact ⟨L, N, B, m, by omega, b⟩
theorem TrG.cases {n : Nat} {t : PV} (h : TrG (n + 1) t) : (∃ z, t = .str z ∧ z.length ≤ 12) ∨ (∃ w, t = .tup [.str w] ∧ w.length ≤ 12) ∨ ∃ w r, t = .tup (.str w :: r) ∧ r ≠ [] ∧ w.length ≤ 12 ∧ r.length ≤ 3 ∧ ∀ t ∈ r, TrG n t := by
  obtain ⟨L, N, B, m, mn, m2, h, hL, hN, hB⟩ := h
  rcases h.cases with ⟨z, rfl, hz⟩ | ⟨w, rfl, hw⟩ | ⟨w, r, k, rfl, e, hr, hw, hl, ht⟩
  · exact .inl ⟨z, rfl, hN z hz⟩
  · exact .inr (.inl ⟨w, rfl, hL w hw⟩)
  · exact .inr (.inr ⟨w, r, rfl, hr, hB w hw, hl, fun t h => ⟨L, N, B, k, by omega, by omega, ht t h, hL, hN, hB⟩⟩)
def spText (n : Nat) : Sp := fun vs H Q _ => ∃ v t, vs = [v] ∧ Is H v t ∧ TrG n t ∧ ∀ H', Same H H' → Q (SV (txt t)) H'
theorem ok_law_text {n : Nat}(T : Txt K mg) (G_law_text : FnOk P w K mg base CX0 (n+1) T.a_law_text T.d_law_text ["tree"] (spText n)) : FnOk P w K mg base CX0 (n+2) T.a_law_text T.d_law_text ["tree"] (spText (n+1)) := by
  refine T.F_law_text.ok sc_law_text (fun vs H Q E h => ?_) (fun cdv A outer s H vs Q E hr h => ?_)
  · obtain ⟨v, t, rfl, _⟩ := h; rfl
  · obtain ⟨v, t, rfl, hI, hT, q⟩ := h
    have hr_law_text := hr
    refine ⟨_, (pss_cons (ps_if (pt_val (pe_callB call_isi (by rfl) T.z_isinstance (by decide +kernel) (pa_cons (pv 0) (pa_cons (pe_bltn rfl T.z_str (by decide +kernel) (show RelV (V.ty "str") (Value.type "str") from rfl)) pa_nil)))) (pss_one (ps_ret (pv 0))) pss_nil)
    (pss_cons (ps_if (pt_cmpR op_eq (pe_callB call_len_seq (by rfl) T.z_len (by decide +kernel) (pa_cons (pv 0) pa_nil)) pe_int (nomark _)) (pss_one (ps_ret (pe_ix ix_seq (pv 0) pe_int (fun _ _ => rfl)))) pss_nil)
    (pss_one (ps_ret (pe_op op_add_str (pe_op op_add_str (pe_op op_add_str (pe_ix ix_seq (pv 0) pe_int (fun _ _ => rfl)) pe_str) (pe_join pe_str (pe_lc (own := [("part", 1)]) (g := (gName 1)) (tt := tYes) rfl sc_law_text.nd (pi_tup (pe_slice sl_tup (pv 0) (po_some pe_int) po_none)) (blkOk_by (own := [("part", 1)]) (N := ["tree", "part"]) (sc := defScope s_law_text) (by decide +kernel)) (fun _ _ _ _ _ => (pg_name (i := 1) sc_law_text.nd rfl (Or.inl rfl))) (fun _ _ _ _ _ => pts_nil) (fun _ _ _ _ _ => (pe_call G_law_text hr_law_text rfl T.m_law_text T.F_law_text.kp T.b_law_text .nil pass0 (pa_cons (pv 1) pa_nil)))))) pe_str))))), ?_⟩
    have hl180 := hT.len
    obtain ⟨u, ty, kt⟩ := hI.ty (K := K)
    refine ⟨_, rfl, _, _, u, _, _, rfl, .ty _, ty, kit_str kt, _, rfl, ?_⟩
    rcases hT.cases with ⟨z, rfl, hz⟩ | ⟨w, rfl, hw⟩ | ⟨w, r, rfl, hne, hw, hl, ht⟩
    · have := q H (.refl _)
      unfold SV txt at this
      rw [mk_cs] at this
      cases hI.str_inv
      exact iteT ⟨_, rfl, this⟩
    · obtain ⟨a, vs, rfl, ea, il⟩ := hI.tup_inv
      cases il with
      | cons h0 h1 =>
      cases h1
      cases h0.str_inv
      have := q H (.refl _)
      unfold SV txt at this
      simp only [List.isEmpty_nil, if_true, mk_cs] at this
      exact iteF ⟨_, rfl, a, _, rfl, .inr (.inl (.inl ea)), rfl, _, rfl, iteT ⟨_, rfl, .inr (.inl ⟨a, _, _, _, rfl, rfl, .inl (.inl ea), atI_nat (j := 0) rfl, this⟩)⟩⟩
    · obtain ⟨a, vs, rfl, ea, il⟩ := hI.tup_inv
      cases il with
      | cons h0 h1 =>
      cases h0.str_inv
      rename_i us
      have hlen := h1.len
      have l1 : 1 ≤ r.length := by cases r with | nil => exact absurd rfl hne | cons _ _ => simp
      refine iteF ⟨_, rfl, a, _, rfl, .inr (.inl (.inl ea)), rfl, _, rfl, ?_⟩
      have e0 : decide (V.int (((V.str w :: us).length : Nat) : Int) = V.int 1) = false := by
        rw [dec_int, List.length_cons]
        have : ¬ (((us.length + 1 : Nat) : Int) = 1) := by omega
        simpa using this
      rw [e0]
      have he : r.isEmpty = false := by cases r with | nil => exact absurd rfl hne | cons _ _ => rfl
      have seplen : (sepJ (txtL r)).length ≤ 180 := by
        simp only [txt, he, Bool.false_eq_true, if_false, List.length_append, List.length_cons] at hl180
        omega
      refine iteF (TxE.go (l := txt (.tup (.str w :: r))) (TxE.to (tx_add (tx_add (tx_add (tx_ix0 rfl (.inl (.inl ea))) tx_lit ?_) (tx_join (lx_lcT (L := txtL r) (tl_drop1 rfl (.inl (.inl ea))) (by rw [txtL_map, List.length_map, hlen]) (by omega) fun i x y H' hx hy s' H2 Q2 s2 q2 => ?_) ?_) ?_) tx_lit ?_) ?_) q)
      all_goals try rw [show gj (cs ", ") (txtL r) = sepJ (txtL r) from gj_sep _]
      all_goals try rw [show cs "(" = [40] from rfl]
      all_goals try rw [show cs ")" = [41] from rfl]
      · rw [cs_len]; simp; omega
      · obtain ⟨t, ht', it⟩ := h1.get hx
        rw [txtL_map, List.getElem?_map, ht'] at hy
        cases hy
        exact ⟨_, rfl, x, t, rfl, it.same (s'.trans s2), ht t (List.mem_of_getElem? ht'), q2⟩
      · have h2 : ((txtL r).map List.length).sum ≤ (txtL r).length * 180 := sum_le fun x hx => by
          rw [txtL_map] at hx
          obtain ⟨t, ht', rfl⟩ := List.mem_map.mp hx
          exact (ht t ht').len
        have h3 : (txtL r).length = r.length := by rw [txtL_map, List.length_map]
        have h4 : (", " : Str).length = 2 := rfl
        rw [h4]
        omega
      · have := seplen
        simp only [List.length_append, List.length_cons, List.length_nil, cs_len]; omega
      · have := seplen
        simp only [List.length_append, List.length_cons, List.length_nil, cs_len]; omega
      · simp only [txt, he, Bool.false_eq_true, if_false, List.append_assoc, List.cons_append, List.nil_append]
theorem all_text (T : Txt K mg) : ∀ n, FnOk P w K mg base CX0 (n + 1) T.a_law_text T.d_law_text ["tree"] (spText n)
  | 0 => no_left fun vs H Q E ⟨_, _, _, _, ⟨_, _, _, _, h, _⟩, _⟩ => by omega
  | n + 1 => ok_law_text T (all_text T n)
/-! ### pairs and lines -/
def KdL (ks : List Kd) : Prop := ks.length ≤ 3 ∧ ∀ k ∈ ks, TrG 3 k.tm ∧ k.fam.length ≤ 12
def spPairs : Sp := fun vs H Q _ => ∃ (a : Addr) (xs : List V) (ks : List Kd), vs = [.ref a] ∧ (SqL K H a xs ∨ SqT K H a xs) ∧ IsL H xs (ks.map kdP) ∧ KdL ks ∧ ∀ H', Same H H' → Q (SV (sepJ (ks.map kdT))) H'
theorem ok_law_pairs (T : Txt K mg) (G_law_text : FnOk P w K mg base CX0 4 T.a_law_text T.d_law_text ["tree"] (spText 3)) : FnOk P w K mg base CX0 5 T.a_law_pairs T.d_law_pairs ["pairs"] (spPairs (K := K)) := by
  refine T.F_law_pairs.ok sc_law_pairs (fun vs H Q E h => ?_) (fun cdv A outer s H vs Q E hr h => ?_)
  · obtain ⟨a, xs, ks, rfl, _⟩ := h; rfl
  · obtain ⟨a, xs, ks, rfl, hS, hI, hK, q⟩ := h
    have hr_law_text := hr
    refine ⟨_, (pss_one (ps_ret (pe_join pe_str (pe_lc (own := [("pair", 1)]) (g := (gName 1)) (tt := tYes) rfl sc_law_pairs.nd (pi_seq (pv 0)) (blkOk_by (own := [("pair", 1)]) (N := ["pairs", "pair"]) (sc := defScope s_law_pairs) (by decide +kernel)) (fun _ _ _ _ _ => (pg_name (i := 1) sc_law_pairs.nd rfl (Or.inl rfl))) (fun _ _ _ _ _ => pts_nil) (fun _ _ _ _ _ => (pe_op op_add_str (pe_op op_add_str (pe_op op_add_str (pe_ix (ixTK (K := K)) (pv 1) pe_int (fun _ _ => rfl)) pe_str) (pe_call G_law_text hr_law_text rfl T.m_law_text T.F_law_text.kp T.b_law_text .nil pass0 (pa_cons (pe_ix (ixTK (K := K)) (pv 1) pe_int (fun _ _ => rfl)) pa_nil))) pe_str)))))), ?_⟩
    have hlen := hI.len
    rw [List.length_map] at hlen
    have l3 := hK.1
    refine TxE.go (l := sepJ (ks.map kdT)) (TxE.to (tx_join (lx_lcS (L := ks.map kdT) rfl hS (by rw [List.length_map, hlen]) (by omega) fun i x y H' hx hy s' => ?_) ?_) ?_) q
    · obtain ⟨t, ht', it⟩ := hI.get hx
      rw [List.getElem?_map] at ht' hy
      obtain ⟨k, hk, rfl⟩ : ∃ k, ks[i]? = some k ∧ kdP k = t := by cases h : ks[i]? with | none => rw [h] at ht'; cases ht' | some k => rw [h] at ht'; exact ⟨k, rfl, Option.some.inj ht'⟩
      rw [hk] at hy
      cases hy
      obtain ⟨p, us, rfl, ep, iu⟩ := (it.same s').tup_inv
      cases iu with
      | cons h0 h1 =>
      cases h1 with
      | cons h1 h2 =>
      cases h2
      cases h0.str_inv
      obtain ⟨g, f12⟩ := hK.2 k (List.mem_of_getElem? hk)
      have g180 := g.len
      refine TxE.to (tx_add (tx_add (tx_add (tx_ixT (j := 0) rfl (.inl (.inl ep)) rfl) tx_lit ?_) (fun H2 Q2 s2 q2 => ⟨_, rfl, p, _, _, _, rfl, rfl, .inl (.inl (s2 _ _ ep)), atI_nat (j := 1) rfl, _, k.tm, rfl, h1.same s2, g, q2⟩) ?_) tx_lit ?_) ?_
      · rw [cs_len, show cs "(" = [40] from rfl]; simp; omega
      · rw [show cs "(" = [40] from rfl]; simp only [List.length_append, List.length_cons, List.length_nil, cs_len]; omega
      · rw [show cs "(" = [40] from rfl, show cs ")" = [41] from rfl]; simp only [List.length_append, List.length_cons, List.length_nil, cs_len]; omega
      · rw [show cs "(" = [40] from rfl, show cs ")" = [41] from rfl]
        simp only [kdT, List.append_assoc, List.cons_append, List.nil_append]
    · have h2 : ((ks.map kdT).map List.length).sum ≤ (ks.map kdT).length * 200 := sum_le fun x hx => by
        obtain ⟨k, hk, rfl⟩ := List.mem_map.mp hx
        obtain ⟨g, f12⟩ := hK.2 k hk
        have := g.len
        simp only [kdT, List.length_append, List.length_cons, List.length_nil, cs_len]
        omega
      rw [List.length_map] at h2 ⊢
      have h4 : (", " : Str).length = 2 := rfl
      rw [h4]
      omega
    · exact gj_sep _
end
end Kx
namespace Kx
open PySem PySem.Spec PyProof.Rows L2
section
variable {P : Program} {w : World} {K : PySem.W.Frag} {mg : Str → Option Value} {base : Heap}
set_option pp.maxSteps 1500
/-! ### the law's lines -/
theorem go_lx {σ : L2.St} {H : Hp} {te : TE} {ls : List (List Nat)} {g : TG} {rest : TS} {D : Ends} (h : LxE σ H te ls) (q : ∀ p H1, Same H H1 → H1 p = some (.lst (ls.map SV)) → g (.ref p) σ H1 fun σ2 H2 => rest D σ2 H2) : tSeq (tAsg te g) rest D σ H := h H _ (.refl _) q
theorem tl_ixT {K : PySem.W.Frag} {σ : L2.St} {H0 : Hp} {i j : Nat} {a m : Addr} {xs ys : List V} (e : σ[i]? = some (some (.ref a))) (h : SqT K H0 a xs) (g : xs[j]? = some (.ref m)) (h2 : SqT K H0 m ys) : TlE K σ H0 (tOp (rIxT K) (tVar i) (tC (.int j))) ys := fun H Q s q =>
  ⟨_, e, a, _, _, _, rfl, rfl, sqt_same s h, atI_nat g, q m H (.refl _) (sqt_same s h2)⟩
def TsE (σ : L2.St) (H0 : Hp) (ta : TA) (ls : List (List Nat)) : Prop := ∀ (H : Hp) (Q : List V → Hp → Prop), Same H0 H → (∀ H', Same H H' → Q (ls.map SV) H') → ta σ H Q
theorem ts_nil {σ : L2.St} {H0 : Hp} : TsE σ H0 tNil [] := fun H Q s q => q H (.refl _)
theorem ts_cons {σ : L2.St} {H0 : Hp} {te : TE} {ta : TA} {l : List Nat} {ls : List (List Nat)} (a : TxE σ H0 te l) (b : TsE σ H0 ta ls) : TsE σ H0 (tCons te ta) (l :: ls) := fun H Q s q =>
  a H _ s fun H1 s1 => b H1 _ (s.trans s1) fun H2 s2 => q H2 (s1.trans s2)
theorem lx_lst {σ : L2.St} {H0 : Hp} {ta : TA} {ls : List (List Nat)} (a : TsE σ H0 ta ls) (l : ls.length ≤ 1000) : LxE σ H0 (tLst ta) ls := fun H Q s q =>
  a H _ s fun H1 s1 => ⟨by rw [List.length_map]; exact Nat.le_of_lt (small1000 l), fun p hp => q p _ (s1.trans (same_upd hp _)) upd_same⟩
theorem lx_var {σ : L2.St} {H0 : Hp} {i : Nat} {p : Addr} {ls : List (List Nat)} (e : σ[i]? = some (some (.ref p))) (h : H0 p = some (.lst (ls.map SV))) : LxE σ H0 (tVar i) ls := fun H Q s q => ⟨_, e, q p H (.refl _) (s _ _ h)⟩
theorem lx_cat {σ : L2.St} {H0 : Hp} {ta tb : TE} {la lb : List (List Nat)} (a : LxE σ H0 ta la) (b : LxE σ H0 tb lb) (l : la.length + lb.length ≤ 1000) : LxE σ H0 (tOp rCat ta tb) (la ++ lb) := fun H Q s q =>
  a H _ s fun p H1 s1 e1 => b H1 _ (s.trans s1) fun p2 H2 s2 e2 => ⟨p, p2, _, _, rfl, rfl, s2 _ _ e1, e2, by rw [List.length_map, List.length_map]; exact Nat.le_of_lt (small1000 l), fun p3 hp3 => q p3 _ ((s1.trans s2).trans (same_upd hp3 _)) (by rw [upd_same, List.map_append])⟩
def LxF (σ : L2.St) (H0 : Hp) (te : TE) (ls : List (List Nat)) : Prop := ∀ (H : Hp) (Q : VK), Same H0 H → (∀ p H', H p = none → Same H H' → H' p = some (.lst (ls.map SV)) → Q (.ref p) H') → te σ H Q
theorem lx_catF {σ : L2.St} {H0 : Hp} {ta tb : TE} {la lb : List (List Nat)} (a : LxE σ H0 ta la) (b : LxE σ H0 tb lb) (l : la.length + lb.length ≤ 1000) : LxF σ H0 (tOp rCat ta tb) (la ++ lb) := fun H Q s q =>
  a H _ s fun p H1 s1 e1 => b H1 _ (s.trans s1) fun p2 H2 s2 e2 => ⟨p, p2, _, _, rfl, rfl, s2 _ _ e1, e2, by rw [List.length_map, List.length_map]; exact Nat.le_of_lt (small1000 l), fun p3 hp3 => q p3 _ ((s1.trans s2).free hp3) ((s1.trans s2).trans (same_upd hp3 _)) (by rw [upd_same, List.map_append])⟩
theorem go_lxF {σ : L2.St} {H : Hp} {te : TE} {ls : List (List Nat)} {g : TG} {rest : TS} {D : Ends} (h : LxF σ H te ls) (q : ∀ p H1, H p = none → Same H H1 → H1 p = some (.lst (ls.map SV)) → g (.ref p) σ H1 fun σ2 H2 => rest D σ2 H2) : tSeq (tAsg te g) rest D σ H := h H _ (.refl _) q
def toldC (ps : List Kd) : List (List Nat) := if ps.isEmpty then [] else [sepJ (ps.map kdT)]
theorem join_C (c : Cn) : gj [32] ([cs "con", cs c.w, [58]] ++ toldC c.ps ++ [[45, 62], kdT c.md]) = lineC c := by
  unfold toldC lineC arT
  cases c.ps.isEmpty <;> simp [gj]
theorem join_H (f : Fn) (h : f.ps ≠ []) : gj [32] ([cs "fun", cs f.w, cs "falls", num f.falls] ++ [[58], sepJ (f.ps.map kdT), [45, 62], kdT f.md]) = lineH f := by
  unfold lineH arT
  cases e : f.ps with
  | nil => exact absurd e h
  | cons a r => simp [gj]
def rStrC : List V → Hp → VK → Prop := fun xs H Q => ∃ i, xs = [.int i] ∧ i.natAbs.log2 < 1920 ∧ Q (.str (toString i)) H
theorem num_lg : ∀ n : Nat, n < 100 → ((n : Nat) : Int).natAbs.log2 < 1920 := by decide +kernel
theorem tx_numT {K : PySem.W.Frag} {σ : L2.St} {H0 : Hp} {i j n : Nat} {a : Addr} {xs : List V} (hn : n < 100) (e : σ[i]? = some (some (.ref a))) (h : SqT K H0 a xs) (g : xs[j]? = some (.int n)) : TxE σ H0 (tCB rStrC (tCons (tOp (rIxT K) (tVar i) (tC (.int j))) tNil)) (num n) := fun H Q s q =>
  ⟨_, e, a, _, _, _, rfl, rfl, sqt_same s h, atI_nat g, _, rfl, num_lg n hn, by have := q H (.refl _); unfold SV num at this; rw [mk_cs] at this; exact this⟩
theorem tx_num {σ : L2.St} {H0 : Hp} {i n : Nat} (hn : n < 100) (e : σ[i]? = some (some (.int n))) : TxE σ H0 (tCB rStrC (tCons (tVar i) tNil)) (num n) := fun H Q s q =>
  ⟨_, e, _, rfl, num_lg n hn, by have := q H (.refl _); unfold SV num at this; rw [mk_cs] at this; exact this⟩
/-! #### the parts of a program as the heap has them -/
theorem one_inv {H : Hp} {vs : List V} {t : PV} (h : IsL H vs [t]) : ∃ v, vs = [v] ∧ Is H v t := by
  cases h with
  | cons a b => cases b; exact ⟨_, rfl, a⟩
theorem two_inv {H : Hp} {vs : List V} {t u : PV} (h : IsL H vs [t, u]) : ∃ v w, vs = [v, w] ∧ Is H v t ∧ Is H w u := by
  cases h with
  | cons a b => obtain ⟨w, rfl, h⟩ := one_inv b; exact ⟨_, w, rfl, a, h⟩
theorem cn_inv {H : Hp} {v : V} {c : Cn} (h : Is H v (cnP c)) : ∃ (p q : Addr) (vs : List V) (i : V), v = .ref p ∧ H p = some (.tup [.str c.w, .ref q, .str c.md.fam, i]) ∧ H q = some (.tup vs) ∧ IsL H vs (c.ps.map kdP) ∧ Is H i c.md.tm ∧ sok c.w = true ∧ sok c.md.fam = true := by
  obtain ⟨p, us, rfl, ep, iu⟩ := h.tup_inv
  cases iu with
  | cons h0 iu =>
  cases iu with
  | cons h1 iu =>
  obtain ⟨v2, v3, rfl, h2, h3⟩ := two_inv iu
  have o1 : sok c.w = true := by cases h0 with | str _ k => exact k
  have o2 : sok c.md.fam = true := by cases h2 with | str _ k => exact k
  cases h0.str_inv
  cases h2.str_inv
  obtain ⟨q, vs, rfl, eq, il⟩ := h1.tup_inv
  exact ⟨p, q, vs, v3, rfl, ep, eq, il, h3, o1, o2⟩
theorem fn_inv {H : Hp} {v : V} {f : Fn} (h : Is H v (fnP f)) : ∃ (p q r : Addr) (vs us : List V) (i : V), v = .ref p ∧ H p = some (.tup [.str f.w, .ref q, .str f.md.fam, i, .int f.falls, .ref r]) ∧ H q = some (.tup vs) ∧ IsL H vs (f.ps.map kdP) ∧ Is H i f.md.tm ∧ H r = some (.tup us) ∧ IsL H us (f.cls.map clP) ∧ sok f.w = true ∧ sok f.md.fam = true := by
  obtain ⟨p, us, rfl, ep, iu⟩ := h.tup_inv
  cases iu with
  | cons h0 iu =>
  cases iu with
  | cons h1 iu =>
  cases iu with
  | cons h2 iu =>
  cases iu with
  | cons h3 iu =>
  obtain ⟨v4, v5, rfl, h4, h5⟩ := two_inv iu
  have o1 : sok f.w = true := by cases h0 with | str _ k => exact k
  have o2 : sok f.md.fam = true := by cases h2 with | str _ k => exact k
  cases h0.str_inv
  cases h2.str_inv
  cases h4
  obtain ⟨q, vs, rfl, eq, il⟩ := h1.tup_inv
  obtain ⟨r, us, rfl, er, ir⟩ := h5.tup_inv
  exact ⟨p, q, r, vs, us, _, rfl, ep, eq, il, h3, er, ir, o1, o2⟩
theorem cl_inv {H : Hp} {v : V} {c : Cl} (h : Is H v (clP c)) : ∃ (p q : Addr) (vs : List V) (b : V), v = .ref p ∧ H p = some (.tup [.ref q, b]) ∧ H q = some (.tup vs) ∧ IsL H vs c.ps ∧ Is H b c.b := by
  obtain ⟨p, us, rfl, ep, iu⟩ := h.tup_inv
  obtain ⟨v4, v5, rfl, h4, h5⟩ := two_inv iu
  obtain ⟨q, vs, rfl, eq, il⟩ := h4.tup_inv
  exact ⟨p, q, vs, _, rfl, ep, eq, il, h5⟩
theorem prg_inv {H : Hp} {v : V} {fs : List Fn} (h : Is H v (prgP fs)) : ∃ (p q : Addr) (vs : List V), v = .ref p ∧ H p = some (.tup [.str "program", .ref q]) ∧ H q = some (.tup vs) ∧ IsL H vs (fs.map fnP) := by
  obtain ⟨p, us, rfl, ep, iu⟩ := h.tup_inv
  obtain ⟨v4, v5, rfl, h4, h5⟩ := two_inv iu
  cases h4.str_inv
  obtain ⟨q, vs, rfl, eq, il⟩ := h5.tup_inv
  exact ⟨p, q, vs, rfl, ep, eq, il⟩
theorem map_at {α β : Type} {f : α → β} {l : List α} {i : Nat} {y : β} (h : (l.map f)[i]? = some y) : ∃ x, l[i]? = some x ∧ f x = y := by
  rw [List.getElem?_map] at h
  cases e : l[i]? with
  | none => rw [e] at h; cases h
  | some x => rw [e] at h; exact ⟨x, rfl, Option.some.inj h⟩
theorem kd_G {F L : List Str} (hF : ∀ z ∈ F, z ∈ FW) (hL : ∀ z ∈ L, z ∈ MW) {k : Kd} (h : KdOk F L KN k) : TrG 3 k.tm ∧ k.fam.length ≤ 12 := by
  have l1 : ∀ z ∈ L, z.length ≤ 12 := fun z hz => (by decide +kernel : ∀ z ∈ MW, z.length ≤ 12) z (hL z hz)
  exact ⟨⟨L, KN, L ++ (["other"] : List Str), 1, by decide, by decide, h.2, l1, by decide +kernel, fun z hz => (List.mem_append.mp hz).elim (l1 z) fun h => by rw [List.mem_singleton.mp h]; decide +kernel⟩, (by decide +kernel : ∀ z ∈ FW, z.length ≤ 12) _ (hF _ h.1)⟩
theorem cl_G {C M : List Str} (hC : ∀ z ∈ C, z ∈ CW) (hM : ∀ z ∈ M, z.length ≤ 12) {p : PV} (h : Tr C CN (C ++ M) 2 p) : TrG 3 p := by
  have l1 : ∀ z ∈ C, z.length ≤ 12 := fun z hz => (by decide +kernel : ∀ z ∈ CW, z.length ≤ 12) z (hC z hz)
  exact ⟨C, CN, C ++ M, 2, by decide, by decide, h, l1, by decide +kernel, fun z hz => (List.mem_append.mp hz).elim (l1 z) (hM z)⟩
/-- a program and its table, all well -/
structure PgOk (t : Tb) (fs : List Fn) : Prop where
  tb : TbOk t
  fn : ∀ f ∈ fs, FnOkk t f
  gw : (fs.map (·.w)).Sublist GW
theorem PgOk.hF {t : Tb} {fs : List Fn} (h : PgOk t fs) : ∀ z ∈ t.fams, z ∈ FW := fun z hz => h.tb.fw.subset hz
theorem PgOk.hL {t : Tb} {fs : List Fn} (h : PgOk t fs) : ∀ z ∈ t.mw, z ∈ MW := fun z hz => h.tb.mw.subset hz
theorem PgOk.hC {t : Tb} {fs : List Fn} (h : PgOk t fs) : ∀ z ∈ t.cw, z ∈ CW := fun z hz => h.tb.cw.subset hz
theorem PgOk.l5 {t : Tb} {fs : List Fn} (h : PgOk t fs) : t.mks.length ≤ 5 ∧ t.fams.length ≤ 5 ∧ t.cns.length ≤ 6 ∧ fs.length ≤ 3 := by
  have h1 := h.tb.mw.length_le
  have h2 := h.tb.cw.length_le
  have h3 := h.gw.length_le
  unfold Tb.mw at h1
  unfold Tb.cw at h2
  rw [List.length_map] at h1 h2 h3
  exact ⟨h1, h.tb.fw.length_le, h2, h3⟩
theorem PgOk.mkr {t : Tb} {fs : List Fn} (h : PgOk t fs) {m : Str × Nat} (hm : m ∈ t.mks) : m.1 ∈ MW ∧ m.2 ∈ NW ∧ m.1.length ≤ 4 ∧ m.2 < 100 := by
  have h1 : m.1 ∈ MW := h.hL _ (List.mem_map.mpr ⟨m, hm, rfl⟩)
  have h2 := h.tb.mn m hm
  exact ⟨h1, h2, (by decide +kernel : ∀ z ∈ MW, z.length ≤ 4) _ h1, nw_lt _ h2⟩
theorem tx_pairs {K : PySem.W.Frag} {σ : L2.St} {H0 : Hp} {i j : Nat} {md : Kd} {ix : V} {E : XK} (e1 : σ[i]? = some (some (.str md.fam))) (e2 : σ[j]? = some (some ix)) (ok : sok md.fam = true) (it : Is H0 ix md.tm) (g : TrG 3 md.tm ∧ md.fam.length ≤ 12) :
    TxE σ H0 (tCall (spPairs (K := K)) [] E (tCons (tLst (tCons (tTup (tCons (tVar i) (tCons (tVar j) tNil))) tNil)) tNil)) (kdT md) := fun H Q s q =>
  ⟨_, e1, _, e2, (by show 2 ≤ sizeLine; decide), fun p6 hp6 => ⟨(by show 1 ≤ sizeLine; decide), fun p7 hp7 => ⟨p7, [.ref p6], [md], rfl, .inl (SqL.of upd_same), .cons (.tup ((same_upd hp7 _) _ _ upd_same) (.cons (.str _ ok) (.cons (it.same ((s.trans (same_upd hp6 _)).trans (same_upd hp7 _))) .nil))) .nil, ⟨by simp, fun kd h => by rw [List.mem_singleton.mp h]; exact g⟩, fun H8 s8 => q H8 (((same_upd hp6 _).trans (same_upd hp7 _)).trans s8)⟩⟩⟩
theorem sumj {ls : List (List Nat)} {n c g : Nat} (h : ls.length ≤ n) (k : ∀ x ∈ ls, x.length ≤ c) (l : n * c + n * g ≤ 16777216) : (ls.map List.length).sum + ls.length * g ≤ 16777216 := by
  have h1 := sum_le k
  have h2 : ls.length * c ≤ n * c := Nat.mul_le_mul_right _ h
  have h3 : ls.length * g ≤ n * g := Nat.mul_le_mul_right _ h
  omega
def spLines : Sp := fun vs H Q _ => ∃ (tv gv : V) (t : Tb) (fs : List Fn), vs = [tv, gv] ∧ Is H tv (tabP t) ∧ Is H gv (prgP fs) ∧ PgOk t fs ∧ ∀ p H', Same H H' → H' p = some (.lst ((lines t fs).map SV)) → Q (.ref p) H'
theorem ok_law_lines (T : Txt K mg) (G_law_text : FnOk P w K mg base CX0 4 T.a_law_text T.d_law_text ["tree"] (spText 3)) (G_law_pairs : FnOk P w K mg base CX0 5 T.a_law_pairs T.d_law_pairs ["pairs"] (spPairs (K := K))) : FnOk P w K mg base CX0 6 T.a_law_lines T.d_law_lines ["table", "program"] spLines := by
  refine T.F_law_lines.ok sc_law_lines (fun vs H Q E h => ?_) (fun cdv A outer s H vs Q E hr h => ?_)
  · obtain ⟨tv, gv, t, fs, rfl, _⟩ := h; rfl
  · obtain ⟨tv, gv, t, fs, rfl, hI, hJ, hP, q⟩ := h
    have hr_law_text : Room 4 _ := hr.mono (by decide)
    have hr_law_pairs : Room 5 _ := hr
    refine ⟨_, (pss_cons (ps_setLc (i := 2) (own := [("maker", 13)]) (g := (gName 13)) (tt := tYes) rfl sc_law_lines.nd rfl rfl (sw_true rfl rfl rfl (by decide +kernel)) (pi_tup (pe_ix ix_tup (pv 0) pe_int (fun _ _ => rfl))) (blkOk_by (own := [("maker", 13)]) (N := ["table", "program", "lines", "family", "word", "parts", "index", "told", "params", "falls", "clauses", "patterns", "body", "maker", "one"]) (sc := defScope s_law_lines) (by decide +kernel)) (fun _ _ _ _ _ => (pg_name (i := 13) sc_law_lines.nd rfl (Or.inl rfl))) (fun _ _ _ _ _ => pts_nil) (fun _ _ _ _ _ => (pe_op op_add_str (pe_op op_add_str (pe_op op_add_str pe_str (pe_ix (ixTK (K := K)) (pv 13) pe_int (fun _ _ => rfl))) pe_str) (pe_callTy call_str_int (by rfl) T.z_str (by decide +kernel) (pa_cons (pe_ix (ixTK (K := K)) (pv 13) pe_int (fun _ _ => rfl)) pa_nil)))))
    (pss_cons (ps_set (i := 2) sc_law_lines.nd rfl (Or.inl rfl) (pe_op op_cat (pv 2) (pe_lc (own := [("family", 3)]) (g := (gName 3)) (tt := tYes) rfl sc_law_lines.nd (pi_tup (pe_ix ix_tup (pv 0) pe_int (fun _ _ => rfl))) (blkOk_by (own := [("family", 3)]) (N := ["table", "program", "lines", "family", "word", "parts", "index", "told", "params", "falls", "clauses", "patterns", "body", "maker", "one"]) (sc := defScope s_law_lines) (by decide +kernel)) (fun _ _ _ _ _ => (pg_name (i := 3) sc_law_lines.nd rfl (Or.inl rfl))) (fun _ _ _ _ _ => pts_nil) (fun _ _ _ _ _ => (pe_op op_add_str pe_str (pv 3))))))
    (pss_cons (ps_for PassesOwn.never rfl (pi_tup (pe_ix ix_tup (pv 0) pe_int (fun _ _ => rfl))) (pg_tup rfl (pgs_cons (pg_name (i := 4) sc_law_lines.nd rfl (Or.inl rfl)) (pgs_cons (pg_name (i := 5) sc_law_lines.nd rfl (Or.inl rfl)) (pgs_cons (pg_name (i := 3) sc_law_lines.nd rfl (Or.inl rfl)) (pgs_cons (pg_name (i := 6) sc_law_lines.nd rfl (Or.inl rfl)) pgs_nil)))))
    (pss_cons (ps_set (i := 7) sc_law_lines.nd rfl (Or.inl rfl) (pe_lst pa_nil))
    (Evl.pss_cut (ps_if (pt_cmpR op_gt (pe_callB call_len_seq (by rfl) T.z_len (by decide +kernel) (pa_cons (pv 5) pa_nil)) pe_int (nomark _)) (pss_one (ps_set (i := 7) sc_law_lines.nd rfl (Or.inl rfl) (pe_lst (pa_cons (pe_call G_law_pairs hr_law_pairs rfl T.m_law_pairs T.F_law_pairs.kp T.b_law_pairs .nil pass0 (pa_cons (pv 5) pa_nil)) pa_nil)))) pss_nil)
    (pss_one (ps_expr (pe_bm PySem.F.plainAttrs_list PySem.F.slot_list_append PySem.F.type_list_append mt_append (pv 2) (pa_cons (pe_join pe_str (pe_op op_cat (pe_op op_cat (pe_lst (pa_cons pe_str (pa_cons (pv 4) (pa_cons pe_str pa_nil)))) (pv 7)) (pe_lst (pa_cons pe_str (pa_cons (pe_call G_law_pairs hr_law_pairs rfl T.m_law_pairs T.F_law_pairs.kp T.b_law_pairs .nil pass0 (pa_cons (pe_lst (pa_cons (pe_tup (pa_cons (pv 3) (pa_cons (pv 6) pa_nil))) pa_nil)) pa_nil)) pa_nil))))) pa_nil)))))))
    (pss_cons (ps_for PassesOwn.never rfl (pi_tup (pe_ix ix_tup (pv 1) pe_int (fun _ _ => rfl))) (pg_tup rfl (pgs_cons (pg_name (i := 4) sc_law_lines.nd rfl (Or.inl rfl)) (pgs_cons (pg_name (i := 8) sc_law_lines.nd rfl (Or.inl rfl)) (pgs_cons (pg_name (i := 3) sc_law_lines.nd rfl (Or.inl rfl)) (pgs_cons (pg_name (i := 6) sc_law_lines.nd rfl (Or.inl rfl)) (pgs_cons (pg_name (i := 9) sc_law_lines.nd rfl (Or.inl rfl)) (pgs_cons (pg_name (i := 10) sc_law_lines.nd rfl (Or.inl rfl)) pgs_nil)))))))
    (pss_cons (ps_set (i := 7) sc_law_lines.nd rfl (Or.inl rfl) (pe_lst (pa_cons pe_str (pa_cons (pe_call G_law_pairs hr_law_pairs rfl T.m_law_pairs T.F_law_pairs.kp T.b_law_pairs .nil pass0 (pa_cons (pv 8) pa_nil)) (pa_cons pe_str (pa_cons (pe_call G_law_pairs hr_law_pairs rfl T.m_law_pairs T.F_law_pairs.kp T.b_law_pairs .nil pass0 (pa_cons (pe_lst (pa_cons (pe_tup (pa_cons (pv 3) (pa_cons (pv 6) pa_nil))) pa_nil)) pa_nil)) pa_nil))))))
    (pss_cons (ps_expr (pe_bm PySem.F.plainAttrs_list PySem.F.slot_list_append PySem.F.type_list_append mt_append (pv 2) (pa_cons (pe_join pe_str (pe_op op_cat (pe_lst (pa_cons pe_str (pa_cons (pv 4) (pa_cons pe_str (pa_cons (pe_callTy call_str_int (by rfl) T.z_str (by decide +kernel) (pa_cons (pv 9) pa_nil)) pa_nil))))) (pv 7))) pa_nil)))
    (pss_one (ps_for PassesOwn.never rfl (pi_tup (pv 10)) (pg_tup rfl (pgs_cons (pg_name (i := 11) sc_law_lines.nd rfl (Or.inl rfl)) (pgs_cons (pg_name (i := 12) sc_law_lines.nd rfl (Or.inl rfl)) pgs_nil)))
    (pss_one (ps_expr (pe_bm PySem.F.plainAttrs_list PySem.F.slot_list_append PySem.F.type_list_append mt_append (pv 2) (pa_cons (pe_op op_add_str (pe_op op_add_str (pe_op op_add_str (pe_op op_add_str (pv 4) pe_str) (pe_join pe_str (pe_lc (own := [("one", 14)]) (g := (gName 14)) (tt := tYes) rfl sc_law_lines.nd (pi_tup (pv 11)) (blkOk_by (own := [("one", 14)]) (N := ["table", "program", "lines", "family", "word", "parts", "index", "told", "params", "falls", "clauses", "patterns", "body", "maker", "one"]) (sc := defScope s_law_lines) (by decide +kernel)) (fun _ _ _ _ _ => (pg_name (i := 14) sc_law_lines.nd rfl (Or.inl rfl))) (fun _ _ _ _ _ => pts_nil) (fun _ _ _ _ _ => (pe_call G_law_text hr_law_text rfl T.m_law_text T.F_law_text.kp T.b_law_text .nil pass0 (pa_cons (pv 14) pa_nil)))))) pe_str) (pe_call G_law_text hr_law_text rfl T.m_law_text T.F_law_text.kp T.b_law_text .nil pass0 (pa_cons (pv 12) pa_nil))) pa_nil)))))))))
    (pss_one (ps_ret (pv 2))))))), ?_⟩
    obtain ⟨a, m, f, k, vm, vk, rfl, ea, em, im, ef, ek, ik⟩ := tab_inv hI
    obtain ⟨b, pf, vf, rfl, eb, epf, jf⟩ := prg_inv hJ
    obtain ⟨l5, l5', l6, l3⟩ := hP.l5
    have hlm := im.len
    have hlk := ik.len
    have hlf := jf.len
    rw [List.length_map] at hlm hlk hlf
    refine go_lx (lx_lcT (L := t.mks.map lineM) (tl_ixT (j := 1) rfl (.inl (.inl ea)) rfl (.inl (.inl em))) (by rw [List.length_map, hlm]) (by omega) fun i x y H' hx hy s' => ?_) fun p1 H1 s1 e1 => ?_
    · obtain ⟨u, hu, iu⟩ := im.get hx
      obtain ⟨mk, hmk, rfl⟩ := map_at hy
      obtain ⟨mk2, hmk2, rfl⟩ := map_at hu
      rw [hmk] at hmk2
      cases hmk2
      obtain ⟨h1, h2, h3, h4⟩ := hP.mkr (List.mem_of_getElem? hmk)
      obtain ⟨p, us, rfl, ep, iu⟩ := (iu.same s').tup_inv
      obtain ⟨u0, u1, rfl, i0, i1⟩ := two_inv iu
      cases i0.str_inv
      cases i1
      have n2 := num_len _ h4
      refine TxE.to (tx_add (tx_add (tx_add tx_lit (tx_ixT (j := 0) rfl (.inl (.inl ep)) rfl) ?_) tx_lit ?_) (tx_numT (j := 1) h4 rfl (.inl (.inl ep)) rfl) ?_) ?_
      · rw [cs_len, cs_len, show ("maker " : Str).length = 6 from rfl]; omega
      · rw [List.length_append, cs_len, cs_len, cs_len, show ("maker " : Str).length = 6 from rfl, show (" " : Str).length = 1 from rfl]; omega
      · rw [List.length_append, List.length_append, cs_len, cs_len, cs_len, show ("maker " : Str).length = 6 from rfl, show (" " : Str).length = 1 from rfl]; omega
      · rw [show cs "maker " = cs "maker" ++ [32] from rfl, show cs " " = [32] from rfl]
        simp only [lineM, List.append_assoc, List.cons_append, List.nil_append]
    refine go_lxF (lx_catF (lx_var rfl e1) (lx_lcT (L := t.fams.map lineF) (tl_ixT (j := 2) rfl (.inl (.inl (s1 _ _ ea))) rfl (.inl (.inl (s1 _ _ ef)))) (by rw [List.length_map, List.length_map]) (by rw [List.length_map]; omega) fun i x y H' hx hy s' => ?_) (by rw [List.length_map, List.length_map]; omega)) fun p2 H2 n2 s2 e2 => ?_
    · obtain ⟨z, hz, rfl⟩ := map_at hx
      obtain ⟨z2, hz2, rfl⟩ := map_at hy
      rw [hz] at hz2
      cases hz2
      have := (by decide +kernel : ∀ z ∈ FW, z.length ≤ 12) _ (hP.hF _ (List.mem_of_getElem? hz))
      refine TxE.to (tx_add tx_lit (tx_varS rfl) ?_) ?_
      · rw [cs_len, cs_len, show ("family " : Str).length = 7 from rfl]; omega
      · rw [show cs "family " = cs "family" ++ [32] from rfl]
        simp only [lineF, List.append_assoc, List.cons_append, List.nil_append]
    have s12 := s1.trans s2
    have np2 : H p2 = none := s1.free n2
    -- constructors
    refine ⟨_, rfl, a, _, _, _, rfl, rfl, .inl (.inl (s12 _ _ ea)), atI_nat (j := 3) rfl, k, rfl, ⟨_, .inl (.inl (s12 _ _ ek))⟩, ?_⟩
    refine for_tup (K := K) (a := k) (xs := vk) (fun i σ H' => ∃ (y3 y4 y5 y6 y7 : Option V), σ = [some (.ref a), some (.ref b), some (.ref p2), y3, y4, y5, y6, y7, none, none, none, none, none, none, none] ∧ Same H H' ∧ H' p2 = some (.lst ((t.mks.map lineM ++ t.fams.map lineF ++ (t.cns.take i).map lineC).map SV))) ?_ ?_ ?_ ?_
    · exact ⟨_, _, _, _, _, rfl, s12, by rw [List.take_zero, List.map_nil, List.append_nil]; exact e2⟩
    · exact fun i σ H' _ ⟨_, _, _, _, _, _, s, _⟩ => .inl (.inl (s _ _ ek))
    · rintro i x σ H3 hx ⟨y3, y4, y5, y6, y7, rfl, s3, e3⟩
      obtain ⟨u, hu, iu⟩ := ik.get hx
      obtain ⟨c, hc, rfl⟩ := map_at hu
      have hi := (List.getElem?_eq_some_iff.mp hx).1
      have okc := hP.tb.cn c (List.mem_of_getElem? hc)
      obtain ⟨p, q2, vs, ix, rfl, ep, eq, il, it, _, _⟩ := cn_inv (iu.same s3)
      have hlen := il.len
      rw [List.length_map] at hlen
      have KG : ∀ kd ∈ c.ps, TrG 3 kd.tm ∧ kd.fam.length ≤ 12 := fun kd h => kd_G hP.hF hP.hL (okc.ps kd h)
      have KM : TrG 3 c.md.tm ∧ c.md.fam.length ≤ 12 := kd_G hP.hF hP.hL okc.md
      have lw := (by decide +kernel : ∀ z ∈ CW, z.length ≤ 12) _ okc.w
      refine ⟨p, _, rfl, .inl (.inl ep), rfl, _, _, rfl, _, _, rfl, _, _, rfl, _, _, rfl, rfl, by decide, fun tq htq => ?_⟩
      have s4 := same_upd htq (.lst [])
      refine ⟨fun σ H' => ∃ tq : Addr, σ = [some (.ref a), some (.ref b), some (.ref p2), some (.str c.md.fam), some (.str c.w), some (.ref q2), some ix, some (.ref tq), none, none, none, none, none, none, none] ∧ Same H3 H' ∧ H' tq = some (.lst ((toldC c.ps).map SV)), ?_, ?_⟩
      · refine ⟨_, rfl, q2, vs, rfl, .inr (.inl (.inl (s4 _ _ eq))), _, _, rfl, rfl, _, rfl, ?_⟩
        cases hps : c.ps with
        | nil =>
          have : vs.length = 0 := by rw [hlen, hps]; rfl
          rw [show decide ((0 : Int) < (vs.length : Int)) = false by rw [this]; rfl]
          exact iteF ⟨tq, rfl, s4, upd_same⟩
        | cons kd r =>
          have h1 : 0 < vs.length := by rw [hlen, hps]; simp
          rw [show decide ((0 : Int) < (vs.length : Int)) = true by simp; omega]
          refine iteT ⟨_, rfl, q2, vs, c.ps, rfl, .inr (.inl (.inl (s4 _ _ eq))), il.same s4, ⟨okc.l3, KG⟩, fun H5 s5 => ⟨(by show 1 ≤ sizeLine; decide), fun tp htp => ⟨tp, rfl, (s4.trans s5).trans (same_upd htp _), by rw [upd_same]; simp [toldC, hps]⟩⟩⟩
      · rintro σ H4 ⟨tq, rfl, s4, e4⟩
        have e34 := s4 _ _ e3
        refine ⟨_, rfl, .inl ⟨rfl, _, SqL.of e34⟩, ?_⟩
        have l1 : (toldC c.ps).length ≤ 1 := by unfold toldC; split <;> simp
        have kl : ∀ kd ∈ c.ps, (kdT kd).length ≤ 200 := fun kd h => by
          have h1 := (KG kd h).1.len
          have h2 := (KG kd h).2
          simp only [kdT, List.length_append, List.length_cons, List.length_nil, cs_len]; omega
        have km : (kdT c.md).length ≤ 200 := by
          have h1 := KM.1.len
          have h2 := KM.2
          simp only [kdT, List.length_append, List.length_cons, List.length_nil, cs_len]; omega
        have tl : ∀ x ∈ toldC c.ps, x.length ≤ 1000 := fun x hx => by
          unfold toldC at hx
          split at hx
          · cases hx
          · rw [List.mem_singleton.mp hx]
            have h2 := sepJ_len (c.ps.map kdT) 200 fun x hx => by obtain ⟨k, hk, rfl⟩ := List.mem_map.mp hx; exact kl k hk
            rw [List.length_map] at h2
            have h3 : c.ps.length * 200 ≤ 3 * 200 := Nat.mul_le_mul_right _ okc.l3
            have := okc.l3
            omega
        refine tx_join (K := K) (lx_cat (lx_cat (lx_lst (ts_cons tx_lit (ts_cons (tx_varS rfl) (ts_cons tx_lit ts_nil))) (by simp)) (lx_var rfl e4) (by simp only [List.length_cons, List.length_nil]; omega)) (lx_lst (ts_cons tx_lit (ts_cons (tx_pairs (K := K) rfl rfl (by assumption) (it.same s4) KM) ts_nil)) (by simp)) (by simp only [List.length_append, List.length_cons, List.length_nil]; omega)) (sumj (n := 10) (c := 1000) ?_ (fun x hx => ?_) (by decide)) H4 _ (.refl _) fun H5 s5 => ?_
        · simp only [List.length_append, List.length_cons, List.length_nil]; omega
        · simp only [List.mem_append, List.mem_cons, List.not_mem_nil, or_false] at hx
          rcases hx with ((rfl | rfl | rfl) | hx) | (rfl | rfl)
          · decide
          · rw [cs_len]; omega
          · decide
          · exact tl x hx
          · decide
          · omega
        · have e5 := s5 _ _ e34
          have ln : (t.mks.map lineM ++ t.fams.map lineF ++ (t.cns.take i).map lineC).length ≤ 100 := by
            simp only [List.length_append, List.length_map]
            have : (t.cns.take i).length ≤ t.cns.length := List.length_take_le' ..
            omega
          refine ⟨p2, _, _, rfl, rfl, e5, by rw [List.length_map]; exact small1000 (by omega), _, _, _, _, _, rfl, Kx.Same.own ((s3.trans s4).trans s5) np2 _, ?_⟩
          rw [upd_same, List.take_add_one, hc]
          have := join_C c
          rw [show cs " " = [32] from rfl, show cs "con" = cs "con" from rfl, show cs ":" = [58] from rfl, show cs "->" = [45, 62] from rfl, this]
          simp only [Option.toList_some, List.map_append, List.map_cons, List.map_nil, List.append_assoc]
    rintro σ H3 ⟨y3, y4, y5, y6, y7, rfl, s3, e3⟩
    rw [hlk, List.take_length] at e3
    have ebC := s3 _ _ eb
    refine ⟨_, rfl, b, _, _, _, rfl, rfl, .inl (.inl ebC), atI_nat (j := 1) rfl, pf, rfl, ⟨_, .inl (.inl (s3 _ _ epf))⟩, ?_⟩
    have tfold : ∀ i f, fs[i]? = some f → linesF (fs.take (i + 1)) = linesF (fs.take i) ++ lineH f :: f.cls.map (lineL f.w) := fun i f h => by
      unfold linesF
      rw [List.take_add_one, h, List.flatMap_append]
      simp
    have lF : ∀ gs : List Fn, gs.length ≤ 3 → (∀ f ∈ gs, f.cls.length ≤ 2) → (linesF gs).length ≤ 9 := fun gs h1 h2 => by
      have : ∀ gs : List Fn, (∀ f ∈ gs, f.cls.length ≤ 2) → (linesF gs).length ≤ gs.length * 3 := by
        intro gs
        induction gs with
        | nil => intro _; simp [linesF]
        | cons g r ih =>
          intro h
          have h1 := h g (List.mem_cons_self ..)
          have h2 := ih fun x hx => h x (List.mem_cons_of_mem _ hx)
          unfold linesF at h2 ⊢
          rw [List.flatMap_cons, List.length_append, List.length_cons, List.length_map, List.length_cons]
          omega
      have := this gs h2
      omega
    refine for_tup (K := K) (a := pf) (xs := vf) (fun i σ H' => ∃ (y3 y4 y5 y6 y7 y8 y9 y10 y11 y12 : Option V), σ = [some (.ref a), some (.ref b), some (.ref p2), y3, y4, y5, y6, y7, y8, y9, y10, y11, y12, none, none] ∧ Same H H' ∧ H' p2 = some (.lst ((t.mks.map lineM ++ t.fams.map lineF ++ t.cns.map lineC ++ linesF (fs.take i)).map SV))) ?_ ?_ ?_ ?_
    · exact ⟨_, _, _, _, _, _, _, _, _, _, rfl, s3, by rw [List.take_zero]; simp only [linesF, List.flatMap_nil, List.append_nil]; exact e3⟩
    · exact fun i σ H' _ ⟨_, _, _, _, _, _, _, _, _, _, _, s, _⟩ => .inl (.inl (s _ _ epf))
    · rintro i x σ H4 hx ⟨z3, z4, z5, z6, z7, z8, z9, z10, z11, z12, rfl, s4, e4⟩
      obtain ⟨u, hu, iu⟩ := jf.get hx
      obtain ⟨f, hf, rfl⟩ := map_at hu
      have hi := (List.getElem?_eq_some_iff.mp hx).1
      have okf := hP.fn f (List.mem_of_getElem? hf)
      obtain ⟨p, q2, r2, vs, us, ix, rfl, ep, eq, il, it, er, ir, ow, ofm⟩ := fn_inv (iu.same s4)
      have hlen := il.len
      have hlen2 := ir.len
      rw [List.length_map] at hlen hlen2
      have KG : ∀ kd ∈ f.ps, TrG 3 kd.tm ∧ kd.fam.length ≤ 12 := fun kd h => kd_G hP.hF hP.hL (okf.ps kd h)
      have KM : TrG 3 f.md.tm ∧ f.md.fam.length ≤ 12 := kd_G hP.hF hP.hL okf.md
      have lw := (by decide +kernel : ∀ z ∈ GW, z.length ≤ 12) _ okf.w
      have km : (kdT f.md).length ≤ 200 := by
        have h1 := KM.1.len
        have h2 := KM.2
        simp only [kdT, List.length_append, List.length_cons, List.length_nil, cs_len]; omega
      have kp : (sepJ (f.ps.map kdT)).length ≤ 1000 := by
        have h2 := sepJ_len (f.ps.map kdT) 200 fun x hx => by
          obtain ⟨k, hk, rfl⟩ := List.mem_map.mp hx
          have h1 := (KG k hk).1.len
          have h2 := (KG k hk).2
          simp only [kdT, List.length_append, List.length_cons, List.length_nil, cs_len]; omega
        rw [List.length_map] at h2
        have h3 : f.ps.length * 200 ≤ 3 * 200 := Nat.mul_le_mul_right _ okf.l3
        have := okf.l3
        omega
      refine ⟨p, _, rfl, .inl (.inl ep), rfl, _, _, rfl, _, _, rfl, _, _, rfl, _, _, rfl, _, _, rfl, _, _, rfl, rfl, ?_⟩
      refine go_lx (ls := [[58], sepJ (f.ps.map kdT), [45, 62], kdT f.md]) (lx_lst (ts_cons (tx_lit (z := ":")) (ts_cons (fun H5 Q5 s5 q5 => ⟨_, rfl, q2, vs, f.ps, rfl, .inr (.inl (.inl (s5 _ _ eq))), il.same s5, ⟨okf.l3, KG⟩, q5⟩) (ts_cons (tx_lit (z := "->")) (ts_cons (tx_pairs (K := K) rfl rfl ofm it KM) ts_nil)))) (by simp)) fun tq H5 s5 e5 => ?_
      have e45 := s5 _ _ e4
      have lnb : (t.mks.map lineM ++ t.fams.map lineF ++ t.cns.map lineC ++ linesF (fs.take i)).length ≤ 100 := by
        have := lF (fs.take i) (Nat.le_trans (List.length_take_le' ..) l3) (fun f h => (hP.fn f (List.mem_of_mem_take h)).l2)
        simp only [List.length_append, List.length_map]
        omega
      refine ⟨_, rfl, .inl ⟨rfl, _, SqL.of e45⟩, ?_⟩
      refine tx_join (K := K) (lx_cat (lx_lst (ts_cons tx_lit (ts_cons (tx_varS rfl) (ts_cons tx_lit (ts_cons (tx_num okf.falls rfl) ts_nil)))) (by simp)) (lx_var rfl e5) (by simp)) (sumj (n := 10) (c := 1000) (by simp) (fun x hx => ?_) (by decide)) H5 _ (.refl _) fun H6 s6 => ?_
      · simp only [List.mem_append, List.mem_cons, List.not_mem_nil, or_false] at hx
        have := num_len _ okf.falls
        rcases hx with (rfl | rfl | rfl | rfl) | (rfl | rfl | rfl | rfl)
        · decide
        · rw [cs_len]; omega
        · decide
        · omega
        · decide
        · exact kp
        · decide
        · omega
      have e6 := s6 _ _ e45
      have s46 := (s4.trans s5).trans s6
      have s46' := s5.trans s6
      refine ⟨p2, _, _, rfl, rfl, e6, by rw [List.length_map]; exact small1000 (by omega), ?_⟩
      have np0 : f.ps ≠ [] := fun e => by have := okf.l1; rw [e] at this; simp at this
      rw [show cs " " = [32] from rfl, join_H f np0]
      have e7 : upd H6 p2 (.lst ((t.mks.map lineM ++ t.fams.map lineF ++ t.cns.map lineC ++ linesF (fs.take i)).map SV ++ [SV (lineH f)])) p2 = some (.lst ((t.mks.map lineM ++ t.fams.map lineF ++ t.cns.map lineC ++ linesF (fs.take i) ++ (lineH f :: (f.cls.take 0).map (lineL f.w))).map SV)) := by rw [upd_same]; simp
      have s7 : Same H (upd H6 p2 (.lst ((t.mks.map lineM ++ t.fams.map lineF ++ t.cns.map lineC ++ linesF (fs.take i)).map SV ++ [SV (lineH f)]))) := Kx.Same.own s46 np2 _
      -- the parts stand as they stood in the program at the start
      obtain ⟨p0, q0, r0, vs0, us0, ix0, epp, ep0, eq0, il0, it0, er0, ir0, _, _⟩ := fn_inv iu
      cases epp
      have tp := (s4 _ _ ep0).symm.trans ep
      cases tp
      have hus := (s4 _ _ er0).symm.trans er
      cases hus
      generalize upd H6 p2 (.lst ((t.mks.map lineM ++ t.fams.map lineF ++ t.cns.map lineC ++ linesF (fs.take i)).map SV ++ [SV (lineH f)])) = H7 at e7 s7 ⊢
      refine ⟨_, rfl, r2, rfl, ⟨_, .inl (.inl (s7 _ _ er0))⟩, ?_⟩
      refine for_tup (K := K) (a := r2) (xs := us) (fun j σ H' => ∃ (y11 y12 : Option V), σ = [some (.ref a), some (.ref b), some (.ref p2), some (.str f.md.fam), some (.str f.w), z5, some ix, some (.ref tq), some (.ref q2), some (.int f.falls), some (.ref r2), y11, y12, none, none] ∧ Same H H' ∧ H' p2 = some (.lst ((t.mks.map lineM ++ t.fams.map lineF ++ t.cns.map lineC ++ linesF (fs.take i) ++ (lineH f :: (f.cls.take j).map (lineL f.w))).map SV))) ?_ ?_ ?_ ?_
      · exact ⟨_, _, rfl, s7, e7⟩
      · exact fun i σ H' _ ⟨_, _, _, s, _⟩ => .inl (.inl (s _ _ er0))
      · rintro j x σ H8 hx ⟨y11, y12, rfl, s8, e8⟩
        obtain ⟨u, hu, iu8⟩ := ir0.get hx
        obtain ⟨c, hc, rfl⟩ := map_at hu
        have okc := okf.cls c (List.mem_of_getElem? hc)
        obtain ⟨pp, pq, ws, bv, rfl, epp, epq, iw, ib⟩ := cl_inv (iu8.same s8)
        have hlw := iw.len
        have l3' := okf.l3
        have lps : c.ps.length ≤ 3 := by rw [okc.l]; exact l3'
        have G1 : ∀ p ∈ c.ps, TrG 3 p := fun p hp => cl_G hP.hC (M := ["Other"]) (by decide +kernel) (okc.ps p hp)
        have G2 : TrG 3 c.b := cl_G hP.hC (M := ["f", "g", "con"]) (by decide +kernel) okc.b
        have lb := G2.len
        have lp : (sepJ (c.ps.map txt)).length ≤ 1000 := by
          have h2 := sepJ_len (c.ps.map txt) 180 fun x hx => by obtain ⟨p, hp, rfl⟩ := List.mem_map.mp hx; exact (G1 p hp).len
          rw [List.length_map] at h2
          have h3 : c.ps.length * 180 ≤ 3 * 180 := Nat.mul_le_mul_right _ lps
          omega
        refine ⟨pp, _, rfl, .inl (.inl epp), rfl, _, _, rfl, _, _, rfl, rfl, ?_⟩
        refine ⟨_, rfl, .inl ⟨rfl, _, SqL.of e8⟩, ?_⟩
        refine TxE.to (l2 := lineL f.w c) (tx_add (tx_add (tx_add (tx_add (tx_varS rfl) tx_lit ?_) (tx_join (K := K) (lx_lcT (L := c.ps.map txt) (tl_var rfl (.inl (.inl epq))) (by rw [List.length_map, hlw]) (by omega) fun i x y H' hx hy s' => ?_) (sumj (n := 3) (c := 180) (by rw [List.length_map]; exact lps) (fun x hx => ?_) (by decide))) ?_) tx_lit ?_) (fun H9 Q9 s9 q9 => ⟨_, rfl, bv, c.b, rfl, ib.same s9, G2, q9⟩) ?_) ?_ H8 _ (.refl _) fun H9 s9 => ?_
        all_goals try rw [show gj (cs ", ") (c.ps.map txt) = sepJ (c.ps.map txt) from gj_sep _]
        all_goals try rw [show cs "(" = [40] from rfl]
        all_goals try rw [show cs ") = " = [41, 32, 61, 32] from rfl]
        · rw [cs_len]; simp; omega
        · obtain ⟨tt, ht, itt⟩ := iw.get hx
          obtain ⟨tt2, ht2, rfl⟩ := map_at hy
          rw [ht] at ht2
          cases ht2
          exact fun H9 Q9 s9 q9 => ⟨_, rfl, x, tt, rfl, itt.same (s'.trans s9), G1 tt (List.mem_of_getElem? ht), q9⟩
        · obtain ⟨p, hp, rfl⟩ := List.mem_map.mp hx; exact (G1 p hp).len
        · simp only [List.length_append, List.length_cons, List.length_nil, cs_len]; omega
        · simp only [List.length_append, List.length_cons, List.length_nil, cs_len]; omega
        · simp only [List.length_append, List.length_cons, List.length_nil, cs_len]; omega
        · simp only [lineL, List.append_assoc, List.cons_append, List.nil_append]
        · have e9 := s9 _ _ e8
          have l2c := okf.l2
          refine ⟨p2, _, _, rfl, rfl, e9, ?_, _, _, rfl, Kx.Same.own (s8.trans s9) np2 _, ?_⟩
          · rw [List.length_map, List.length_append, List.length_cons, List.length_map]
            exact small1000 (by have : (f.cls.take j).length ≤ f.cls.length := List.length_take_le' ..; omega)
          · rw [upd_same, List.take_add_one, hc]
            simp only [Option.toList_some, List.map_append, List.map_cons, List.map_nil, List.append_assoc, List.cons_append]
      · rintro σ H8 ⟨y11, y12, rfl, s8, e8⟩
        rw [hlen2, List.take_length] at e8
        refine ⟨_, _, _, _, _, _, _, _, _, _, rfl, s8, ?_⟩
        rw [tfold i f hf, ← List.append_assoc]
        exact e8
    · rintro σ H4 ⟨z3, z4, z5, z6, z7, z8, z9, z10, z11, z12, rfl, s4, e4⟩
      rw [hlf, List.take_length] at e4
      refine ⟨_, rfl, q p2 H4 s4 ?_⟩
      unfold lines
      simp only [List.append_assoc] at e4 ⊢
      exact e4
end
end Kx
namespace Kx
open PySem PySem.Spec PyProof.Rows L2
section
variable {P : Program} {w : World} {K : PySem.W.Frag} {mg : Str → Option Value} {base : Heap}
set_option pp.maxSteps 1500
/-! ### what write makes -/
theorem go_tx {σ : L2.St} {H : Hp} {te : TE} {l : List Nat} {g : TG} {rest : TS} {D : Ends} (h : TxE σ H te l) (q : ∀ H1, Same H H1 → g (SV l) σ H1 fun σ2 H2 => rest D σ2 H2) : tSeq (tAsg te g) rest D σ H := h H _ (.refl _) q
def JsE (σ : L2.St) (H0 : Hp) (ts : List TE) (l : List Nat) : Prop := ∀ (acc : Str) (H : Hp) (Q : Str → Hp → Prop), acc.length + l.length ≤ 20000 → Same H0 H → (∀ H', Same H H' → Q (acc ++ mkS l) H') → tJs ts acc σ H Q
theorem js_nil {σ : L2.St} {H0 : Hp} : JsE σ H0 [] [] := fun acc H Q l s q => by
  have := q H (.refl _)
  rw [show acc ++ mkS [] = acc from cs_inj (by rw [cs_app, cs_mk, List.append_nil])] at this
  exact this
theorem js_cons {σ : L2.St} {H0 : Hp} {te : TE} {ts : List TE} {a b : List Nat} (ha : TxE σ H0 te a) (hb : JsE σ H0 ts b) : JsE σ H0 (te :: ts) (a ++ b) := fun acc H Q l s q => by
  rw [List.length_append] at l
  refine ha H _ s fun H1 s1 => ⟨mkS a, rfl, ?_, hb _ H1 _ ?_ (s.trans s1) fun H2 s2 => ?_⟩
  · rw [slen, mk_len]; exact small7 (by omega)
  · rw [slen, mk_len]; omega
  · have := q H2 (s1.trans s2)
    rw [← mk_app] at this
    rw [show (acc ++ mkS a) ++ mkS b = acc ++ (mkS a ++ mkS b) from cs_inj (by simp only [cs_app, List.append_assoc])]
    exact this
theorem go_c1 {σ : L2.St} {H : Hp} {te : TE} {l : List Nat} {R : List V → Hp → Prop} (h : TxE σ H te l) (q : ∀ H', Same H H' → R [SV l] H') : tCons te tNil σ H R := h H _ (.refl _) q
theorem JsE.to {σ : L2.St} {H0 : Hp} {ts : List TE} {l l2 : List Nat} (h : JsE σ H0 ts l) (e : l = l2) : JsE σ H0 ts l2 := e ▸ h
theorem go_js {σ : L2.St} {H : Hp} {ts : List TE} {l : List Nat} {R : VK} (h : JsE σ H ts l) (n : l.length ≤ 20000) (q : ∀ H', Same H H' → R (SV l) H') : tJs ts Str.empty σ H fun out H1 => R (.str out) H1 :=
  h Str.empty H _ (by show 0 + _ ≤ _; omega) (.refl _) fun H1 s1 => by
    have := q H1 s1
    rw [show Str.empty ++ mkS l = mkS l from cs_inj (by rw [cs_app]; rfl)]
    exact this
theorem tx_fs {σ : L2.St} {H0 : Hp} {ts : List TE} {l : List Nat} (h : JsE σ H0 ts l) (n : l.length ≤ 20000) : TxE σ H0 (fun σ H Q => tJs ts Str.empty σ H fun out H1 => Q (.str out) H1) l := fun H Q s q =>
  h Str.empty H _ (by show 0 + _ ≤ _; omega) s fun H1 s1 => by
    have := q H1 s1
    rw [show Str.empty ++ mkS l = mkS l from cs_inj (by rw [cs_app]; rfl)]
    exact this
theorem tx_fmt {σ : L2.St} {H0 : Hp} {te : TE} {l : List Nat} (h : TxE σ H0 te l) (n : l.length ≤ 20000) : TxE σ H0 (tFmt te) l := fun H Q s q => h H _ s fun H1 s1 => .inl ⟨_, rfl, by rw [mk_len]; exact small7 n, q H1 s1⟩
theorem tx_fmtN {σ : L2.St} {H0 : Hp} {i n : Nat} (hn : n < 100) (e : σ[i]? = some (some (.int n))) : TxE σ H0 (tFmt (tVar i)) (num n) := fun H Q s q =>
  ⟨_, e, .inr ⟨_, rfl, num_lg n hn, by have := q H (.refl _); unfold SV num at this; rw [mk_cs] at this; exact this⟩⟩
/-- a list of the texts of a tuple's pairs -/
theorem lx_lcP {K : PySem.W.Frag} {σ : L2.St} {H0 : Hp} {tl te : TE} {xs : List V} {L : List (List Nat)} {i1 i2 : Nat} (ht : TlE K σ H0 tl xs) (hl : L.length = xs.length) (hb : xs.length ≤ 1000)
    (hw : ∀ u v, wipe (((wipe σ [i1, i2]).set i1 (some u)).set i2 (some v)) [i1, i2] = wipe σ [i1, i2])
    (hs : ∀ (i : Nat) (x : V) (y : List Nat) (H' : Hp), xs[i]? = some x → L[i]? = some y → Same H0 H' → ∃ p u v, x = .ref p ∧ SqT K H' p [u, v] ∧ TxE (((wipe σ [i1, i2]).set i1 (some u)).set i2 (some v)) H' te y) :
    LxF σ H0 (tLc (iTup K tl) (gTup K 2 (gCons (gName i1) (gCons (gName i2) gNil))) tYes te [i1, i2]) L := fun H Q s q => by
  refine ht H _ s fun a H1 s1 ha => ⟨a, rfl, ⟨xs, ha⟩, fun D hD => ?_⟩
  refine lc_tup (K := K) (a := a) (xs := xs) (fun i H4 => Same H1 H4 ∧ H4 D = some (.lst ((L.take i).map SV))) ?_ ?_ ?_ ?_
  · exact ⟨same_upd hD _, upd_same⟩
  · exact fun i H' _ ⟨s, _⟩ => sqt_same s ha
  · rintro i x H4 hx ⟨s4, e4⟩
    have hi := (List.getElem?_eq_some_iff.mp hx).1
    have hy : L[i]? = some (L[i]'(by omega)) := List.getElem?_eq_getElem _
    obtain ⟨p, u, v, rfl, hp, htx⟩ := hs i x _ H4 hx hy ((s.trans s1).trans s4)
    refine ⟨p, _, rfl, hp, rfl, _, _, rfl, _, _, rfl, rfl, hw u v, yes_if ?_⟩
    refine htx H4 _ (.refl _) fun H5 s5 => ⟨_, s5 _ _ e4, ?_, Kx.Same.own (s4.trans s5) hD _, ?_⟩
    · rw [List.length_map]; exact small1000 (by have : (L.take i).length ≤ i := List.length_take_le ..; omega)
    · rw [upd_same, List.take_add_one, hy, List.map_append]; rfl
  · rintro H4 ⟨s4, e4⟩
    rw [← hl, List.take_length] at e4
    exact q D H4 (s1.free hD) (s1.trans s4) e4
theorem lx_lstF {σ : L2.St} {H0 : Hp} {ta : TA} {ls : List (List Nat)} (a : TsE σ H0 ta ls) (l : ls.length ≤ 1000) : LxF σ H0 (tLst ta) ls := fun H Q s q =>
  a H _ s fun H1 s1 => ⟨by rw [List.length_map]; exact Nat.le_of_lt (small1000 l), fun p hp => q p _ (s1.free hp) (s1.trans (same_upd hp _)) upd_same⟩
theorem LxF.to {σ : L2.St} {H0 : Hp} {te : TE} {l : List (List Nat)} (h : LxF σ H0 te l) : LxE σ H0 te l := fun H Q s q => h H Q s fun p H' _ s' e => q p H' s' e
end
end Kx
namespace Kx
open PySem PySem.Spec PyProof.Rows L2
section
variable {P : Program} {w : World} {K : PySem.W.Frag} {mg : Str → Option Value} {base : Heap}
set_option pp.maxSteps 1500
/-! ### the whole text -/
def fullT (ls : List (List Nat)) : List Nat := (ls.map (· ++ [10])).flatten
theorem gj_nil : ∀ l : List (List Nat), gj [] l = l.flatten
  | [] => rfl
  | [a] => by simp [gj]
  | a :: b :: r => by
    have := gj_nil (b :: r)
    simp only [gj, List.nil_append, this, List.flatten_cons]
theorem flat_len {l : List (List Nat)} {c : Nat} (h : ∀ x ∈ l, x.length ≤ c) : l.flatten.length ≤ l.length * c := by
  rw [List.length_flatten]
  exact sum_le h
theorem full_app (a b : List (List Nat)) : fullT (a ++ b) = fullT a ++ fullT b := by simp [fullT]
theorem full_le {l : List (List Nat)} {n c : Nat} (hn : l.length ≤ n) (h : ∀ x ∈ l, x.length ≤ c) : (fullT l).length ≤ n * (c + 1) := by
  have h1 := flat_len (l := l.map (· ++ [10])) (c := c + 1) fun x hx => by
    obtain ⟨y, hy, rfl⟩ := List.mem_map.mp hx
    have := h y hy
    rw [List.length_append, List.length_singleton]; omega
  rw [List.length_map] at h1
  exact Nat.le_trans h1 (Nat.mul_le_mul_right _ hn)
/-- each line is well -/
theorem PgOk.lnM {t : Tb} {fs : List Fn} (h : PgOk t fs) : ∀ m ∈ t.mks, LnOk (lineM m) (tokM m) 13 := fun m hm => Kx.lnM (h.mkr hm).1 (h.mkr hm).2.1
theorem PgOk.lnF {t : Tb} {fs : List Fn} (h : PgOk t fs) : ∀ z ∈ t.fams, LnOk (lineF z) (tokF z) 13 := fun z hz => Kx.lnF (h.hF z hz)
theorem PgOk.lnC {t : Tb} {fs : List Fn} (h : PgOk t fs) : ∀ c ∈ t.cns, LnOk (lineC c) (tokC c) 151 := fun c hc => Kx.lnC h.hF h.hL (h.tb.cn c hc)
theorem PgOk.lnH {t : Tb} {fs : List Fn} (h : PgOk t fs) : ∀ f ∈ fs, LnOk (lineH f) (tokH f) 153 := fun f hf => Kx.lnH h.hF h.hL (h.fn f hf)
theorem PgOk.lnL {t : Tb} {fs : List Fn} (h : PgOk t fs) : ∀ f ∈ fs, ∀ c ∈ f.cls, LnOk (lineL f.w c) (tokL f.w c) 734 := fun f hf c hc => Kx.lnL h.hC (h.fn f hf).w ((h.fn f hf).cls c hc) (h.fn f hf).l3
theorem PgOk.len {t : Tb} {fs : List Fn} (h : PgOk t fs) : (fullT (lines t fs)).length ≤ 5924 := by
  obtain ⟨l1, l2, l3, l4⟩ := h.l5
  have h1 : (fullT (t.mks.map lineM)).length ≤ 5 * 14 := full_le (by rw [List.length_map]; exact l1) fun x hx => by obtain ⟨m, hm, rfl⟩ := List.mem_map.mp hx; exact (h.lnM m hm).len
  have h2 : (fullT (t.fams.map lineF)).length ≤ 5 * 14 := full_le (by rw [List.length_map]; exact l2) fun x hx => by obtain ⟨m, hm, rfl⟩ := List.mem_map.mp hx; exact (h.lnF m hm).len
  have h3 : (fullT (t.cns.map lineC)).length ≤ 6 * 152 := full_le (by rw [List.length_map]; exact l3) fun x hx => by obtain ⟨m, hm, rfl⟩ := List.mem_map.mp hx; exact (h.lnC m hm).len
  have h4 : ∀ gs : List Fn, (∀ f ∈ gs, f ∈ fs) → (fullT (linesF gs)).length ≤ gs.length * 1624 := by
    intro gs
    induction gs with
    | nil => intro _; simp [fullT, linesF]
    | cons f r ih =>
      intro hm
      have h5 := ih fun x hx => hm x (List.mem_cons_of_mem _ hx)
      have hf := hm f (List.mem_cons_self ..)
      have h6 : (fullT [lineH f]).length ≤ 1 * 154 := full_le (by simp) fun x hx => by rw [List.mem_singleton.mp hx]; exact (h.lnH f hf).len
      have h7 : (fullT (f.cls.map (lineL f.w))).length ≤ 2 * 735 := full_le (by rw [List.length_map]; exact (h.fn f hf).l2) fun x hx => by obtain ⟨c, hc, rfl⟩ := List.mem_map.mp hx; exact (h.lnL f hf c hc).len
      have e : linesF (f :: r) = [lineH f] ++ (f.cls.map (lineL f.w) ++ linesF r) := by simp [linesF]
      rw [e, full_app, full_app, List.length_append, List.length_append, List.length_cons]
      omega
  have h5 := h4 fs fun f hf => hf
  unfold lines
  rw [full_app, full_app, full_app, List.length_append, List.length_append, List.length_append]
  omega
theorem lines_le {t : Tb} {fs : List Fn} (h : PgOk t fs) : (lines t fs).length ≤ 100 := by
  obtain ⟨l1, l2, l3, l4⟩ := h.l5
  have : ∀ gs : List Fn, (∀ f ∈ gs, f.cls.length ≤ 2) → (linesF gs).length ≤ gs.length * 3 := by
    intro gs
    induction gs with
    | nil => intro _; simp [linesF]
    | cons g r ih =>
      intro h
      have h1 := h g (List.mem_cons_self ..)
      have h2 := ih fun x hx => h x (List.mem_cons_of_mem _ hx)
      unfold linesF at h2 ⊢
      rw [List.flatMap_cons, List.length_append, List.length_cons, List.length_map, List.length_cons]
      omega
  have h5 := this fs fun f hf => (h.fn f hf).l2
  simp only [lines, List.length_append, List.length_map]
  omega
theorem nx_of {f : L2.St → Hp → Prop} {r : VK} {b c : L2.St → Hp → Prop} {σ : L2.St} {H : Hp} (h : f σ H) : (Ends.mk f r b c).nx σ H := h
theorem go_l1 {σ : L2.St} {H : Hp} {te : TE} {ls : List (List Nat)} {R : List V → Hp → Prop} (h : LxE σ H te ls) (q : ∀ p H', Same H H' → H' p = some (.lst (ls.map SV)) → R [.ref p] H') : tCons te tNil σ H R := h H _ (.refl _) q
/-- over a list of texts -/
theorem lx_lcL {K : PySem.W.Frag} {σ : L2.St} {H0 : Hp} {te : TE} {a : Addr} {xs : List V} {L : List (List Nat)} {j k : Nat} (e : σ[j]? = some (some (.ref a))) (ha : SqL K H0 a xs) (hl : L.length = xs.length) (hb : xs.length ≤ 1000)
    (hs : ∀ (i : Nat) (x : V) (y : List Nat) (H' : Hp), xs[i]? = some x → L[i]? = some y → Same H0 H' → TxE ((σ.set k none).set k (some x)) H' te y) :
    LxE σ H0 (tLc (iList K (tVar j)) (gName k) tYes te [k]) L := fun H Q s q => by
  refine ⟨_, e, a, rfl, ⟨xs, s.seq ha⟩, fun D hD => ?_⟩
  refine lc_list (K := K) (a := a) (xs := xs) (fun i H4 => Same H H4 ∧ H4 D = some (.lst ((L.take i).map SV))) ⟨same_upd hD _, upd_same⟩ (fun i H' _ ⟨s2, _⟩ => (s.trans s2).seq ha) ?_ ?_
  · rintro i x H4 hx ⟨s4, e4⟩
    have hi := (List.getElem?_eq_some_iff.mp hx).1
    have hy : L[i]? = some (L[i]'(by omega)) := List.getElem?_eq_getElem _
    refine ⟨by show ((σ.set k none).set k (some x)).set k none = σ.set k none; simp only [List.set_set], yes_if ?_⟩
    refine hs i x _ H4 hx hy (s.trans s4) H4 _ (.refl _) fun H5 s5 => ⟨_, s5 _ _ e4, ?_, Kx.Same.own (s4.trans s5) hD _, ?_⟩
    · rw [List.length_map]; exact small1000 (by have : (L.take i).length ≤ i := List.length_take_le ..; omega)
    · rw [upd_same, List.take_add_one, hy, List.map_append]; rfl
  · rintro H4 ⟨s4, e4⟩
    rw [← hl, List.take_length] at e4
    exact q D H4 s4 e4
end
end Kx
namespace Kx
open PySem PySem.Spec PyProof.Rows L2
section
variable {P : Program} {w : World} {K : PySem.W.Frag} {mg : Str → Option Value} {base : Heap}
set_option pp.maxSteps 1200
/-! ### two values that are the same -/
theorem kitAny_cons {K : PySem.W.Frag} {u c : Value} {cs : List Value} {r b : Bool} (h : PySem.W.kitOne K u c = some r) (f : r = false → PySem.W.kitAny K u cs = some b) (t : r = true → b = true) : PySem.W.kitAny K u (c :: cs) = some b := by
  unfold PySem.W.kitAny
  rw [h]
  cases r with
  | true => simp [t rfl]
  | false => exact f rfl
theorem kit_bool {K : PySem.W.Frag} {t : PV} {u : Value} (h : tyOf t u) : PySem.W.kitOne K u (.type "bool") = some false := by
  cases t with
  | str z => cases h; exact kit_ty (show kitB "str" "bool" = some false by decide +kernel)
  | tup ts => cases h; exact kit_ty (show kitB "tuple" "bool" = some false by decide +kernel)
  | int i => cases h; exact kit_ty (show kitB "int" "bool" = some false by decide +kernel)
theorem kit_list {K : PySem.W.Frag} {t : PV} {u : Value} (h : tyOf t u) : PySem.W.kitOne K u (.type "list") = some false := by
  cases t with
  | str z => cases h; exact kit_ty (show kitB "str" "list" = some false by decide +kernel)
  | tup ts => cases h; exact kit_ty (show kitB "tuple" "list" = some false by decide +kernel)
  | int i => cases h; exact kit_ty (show kitB "int" "list" = some false by decide +kernel)
def isInt : PV → Bool
  | .int _ => true
  | _ => false
theorem kit_int {K : PySem.W.Frag} {t : PV} {u : Value} (h : tyOf t u) : PySem.W.kitOne K u (.type "int") = some (isInt t) := by
  cases t with
  | str z => cases h; exact kit_ty (show kitB "str" "int" = some false by decide +kernel)
  | tup ts => cases h; exact kit_ty (show kitB "tuple" "int" = some false by decide +kernel)
  | int i => cases h; exact kit_ty (show kitB "int" "int" = some true by decide +kernel)
def Wb : Nat → PV → Prop
  | 0, _ => False
  | n + 1, .tup ts => ts.length ≤ 100 ∧ ∀ t ∈ ts, Wb n t
  | _ + 1, _ => True
theorem Wb.up : ∀ {n : Nat} {t : PV}, Wb n t → Wb (n + 1) t
  | n + 1, .tup ts, h => ⟨h.1, fun t ht => (h.2 t ht).up⟩
  | n + 1, .str _, _ => trivial
  | n + 1, .int _, _ => trivial
theorem Wb.mono {n k : Nat} {t : PV} (h : Wb n t) (l : n ≤ k) : Wb k t := by
  induction l with
  | refl => exact h
  | step _ ih => exact ih.up
theorem no_non {H : Hp} {v : V} {t : PV} (h : Is H v t) : decide (v = V.non) = false := decide_eq_false fun e => by subst e; cases h
theorem all_tr {bs : List V} (h : ∀ x ∈ bs, x = V.bl true) : (!inV (V.bl false) bs) = true ∧ bs.all flatV = true := by
  induction bs with
  | nil => exact ⟨rfl, rfl⟩
  | cons a r ih =>
    obtain ⟨h1, h2⟩ := ih fun x hx => h x (List.mem_cons_of_mem _ hx)
    rw [h a (List.mem_cons_self ..)]
    refine ⟨?_, by rw [List.all_cons, h2]; rfl⟩
    have : inV (V.bl false) (V.bl true :: r) = inV (V.bl false) r := by
      unfold inV
      rw [List.any_cons]
      rfl
    rw [this]; exact h1
def spSame (n : Nat) : Sp := fun vs H Q _ => ∃ a b t, vs = [a, b] ∧ Is H a t ∧ Is H b t ∧ Wb n t ∧ ∀ H', Same H H' → Q (.bl true) H'
theorem ok_law_same {n : Nat}(T : Txt K mg) (G_law_same : FnOk P w K mg base CX0 (n+1) T.a_law_same T.d_law_same ["told", "due"] (spSame n)) : FnOk P w K mg base CX0 (n+2) T.a_law_same T.d_law_same ["told", "due"] (spSame (n+1)) := by
  refine T.F_law_same.ok sc_law_same (fun vs H Q E h => ?_) (fun cdv A outer s H vs Q E hr h => ?_)
  · obtain ⟨a, b, t, rfl, _⟩ := h; rfl
  · obtain ⟨a, b, t, rfl, hA, hB, hW, q⟩ := h
    have hr_law_same := hr
    refine ⟨_, (pss_cons (ps_if (pt_cmpR op_isN (pv 1) pe_non (nomark _)) (pss_one (ps_ret (pe_cmpR op_isN (pv 0) pe_non (nomark _)))) pss_nil)
    (pss_cons (ps_if (pt_val (pe_callB call_isi (by rfl) T.z_isinstance (by decide +kernel) (pa_cons (pv 1) (pa_cons (pe_bltn rfl T.z_bool (by decide +kernel) (show RelV (V.ty "bool") (Value.type "bool") from rfl)) pa_nil)))) (pss_one (ps_ret (pe_and (pe_callB call_isi (by rfl) T.z_isinstance (by decide +kernel) (pa_cons (pv 0) (pa_cons (pe_bltn rfl T.z_bool (by decide +kernel) (show RelV (V.ty "bool") (Value.type "bool") from rfl)) pa_nil))) (pe_one (pe_cmpR op_eq (pv 0) (pv 1) (nomark _)))))) pss_nil)
    (pss_cons (ps_if (pt_val (pe_callB call_isi (by rfl) T.z_isinstance (by decide +kernel) (pa_cons (pv 1) (pa_cons (pe_bltn rfl T.z_int (by decide +kernel) (show RelV (V.ty "int") (Value.type "int") from rfl)) pa_nil)))) (pss_one (ps_ret (pe_and (pe_callB call_isi (by rfl) T.z_isinstance (by decide +kernel) (pa_cons (pv 0) (pa_cons (pe_bltn rfl T.z_int (by decide +kernel) (show RelV (V.ty "int") (Value.type "int") from rfl)) pa_nil))) (pe_and (pe_not (pe_callB call_isi (by rfl) T.z_isinstance (by decide +kernel) (pa_cons (pv 0) (pa_cons (pe_bltn rfl T.z_bool (by decide +kernel) (show RelV (V.ty "bool") (Value.type "bool") from rfl)) pa_nil)))) (pe_one (pe_cmpR op_eq (pv 0) (pv 1) (nomark _))))))) pss_nil)
    (pss_cons (ps_if (pt_val (pe_callB call_isi (by rfl) T.z_isinstance (by decide +kernel) (pa_cons (pv 1) (pa_cons (pe_bltn rfl T.z_str (by decide +kernel) (show RelV (V.ty "str") (Value.type "str") from rfl)) pa_nil)))) (pss_one (ps_ret (pe_and (pe_callB call_isi (by rfl) T.z_isinstance (by decide +kernel) (pa_cons (pv 0) (pa_cons (pe_bltn rfl T.z_str (by decide +kernel) (show RelV (V.ty "str") (Value.type "str") from rfl)) pa_nil))) (pe_one (pe_cmpR op_eq (pv 0) (pv 1) (nomark _)))))) pss_nil)
    (pss_cons (ps_if (PW.pt (pw_or (pt_cmpR op_ne (pe_callB call_isi (by rfl) T.z_isinstance (by decide +kernel) (pa_cons (pv 1) (pa_cons (pe_bltn rfl T.z_tuple (by decide +kernel) (show RelV (V.ty "tuple") (Value.type "tuple") from rfl)) pa_nil))) (pe_callB call_isi (by rfl) T.z_isinstance (by decide +kernel) (pa_cons (pv 0) (pa_cons (pe_bltn rfl T.z_tuple (by decide +kernel) (show RelV (V.ty "tuple") (Value.type "tuple") from rfl)) pa_nil))) (nomark _)) (pw_or1 (pt_cmpR op_ne (pe_callB call_isi (by rfl) T.z_isinstance (by decide +kernel) (pa_cons (pv 1) (pa_cons (pe_bltn rfl T.z_list (by decide +kernel) (show RelV (V.ty "list") (Value.type "list") from rfl)) pa_nil))) (pe_callB call_isi (by rfl) T.z_isinstance (by decide +kernel) (pa_cons (pv 0) (pa_cons (pe_bltn rfl T.z_list (by decide +kernel) (show RelV (V.ty "list") (Value.type "list") from rfl)) pa_nil))) (nomark _))))) (pss_one (ps_ret pe_bl)) pss_nil)
    (pss_cons (ps_if (PW.pt (pw_or (pt_not (pt_val (pe_callB call_isiT (by rfl) T.z_isinstance (by decide +kernel) (pa_cons (pv 0) (pa_cons (pe_tup (pa_cons (pe_bltn rfl T.z_tuple (by decide +kernel) (show RelV (V.ty "tuple") (Value.type "tuple") from rfl)) (pa_cons (pe_bltn rfl T.z_list (by decide +kernel) (show RelV (V.ty "list") (Value.type "list") from rfl)) pa_nil))) pa_nil))))) (pw_or1 (pt_cmpR op_ne (pe_callB call_len_seq (by rfl) T.z_len (by decide +kernel) (pa_cons (pv 0) pa_nil)) (pe_callB call_len_seq (by rfl) T.z_len (by decide +kernel) (pa_cons (pv 1) pa_nil)) (nomark _))))) (pss_one (ps_ret pe_bl)) pss_nil)
    (pss_one (ps_ret (pe_cmpR op_notIn_seq pe_bl (pe_lc (own := [("k", 2)]) (g := (gName 2)) (tt := tYes) rfl sc_law_same.nd (pi_range1 (by rfl) T.z_range (pa_cons (pe_callB call_len_seq (by rfl) T.z_len (by decide +kernel) (pa_cons (pv 1) pa_nil)) pa_nil)) (blkOk_by (own := [("k", 2)]) (N := ["told", "due", "k"]) (sc := defScope s_law_same) (by decide +kernel)) (fun _ _ _ _ _ => (pg_name (i := 2) sc_law_same.nd rfl (Or.inl rfl))) (fun _ _ _ _ _ => pts_nil) (fun _ _ _ _ _ => (pe_call G_law_same hr_law_same rfl T.m_law_same T.F_law_same.kp T.b_law_same .nil pass0 (pa_cons (pe_ix (ixTK (K := K)) (pv 0) (pv 2) (fun _ _ => rfl)) (pa_cons (pe_ix (ixTK (K := K)) (pv 1) (pv 2) (fun _ _ => rfl)) pa_nil))))) (by rfl)))))))))), ?_⟩
    obtain ⟨u, ty, kt⟩ := hA.ty (K := K)
    obtain ⟨u2, ty2, kt2⟩ := hB.ty (K := K)
    refine ⟨_, rfl, rfl, _, rfl, ?_⟩
    rw [no_non hB]
    refine iteF ⟨_, rfl, _, _, u2, _, _, rfl, .ty _, ty2, kit_bool kt2, _, rfl, iteF ?_⟩
    refine ⟨_, rfl, _, _, u2, _, _, rfl, .ty _, ty2, kit_int kt2, _, rfl, ?_⟩
    cases t with
    | int i =>
      cases hA
      cases hB
      refine iteT ⟨_, rfl, _, _, u, _, _, rfl, .ty _, ty, kit_int kt, ?_⟩
      exact ⟨_, rfl, iteT ⟨_, rfl, _, _, u, _, _, rfl, .ty _, ty, kit_bool kt, _, rfl, _, rfl, iteT ⟨_, rfl, _, rfl, by simp [scal], by simpa using q H (.refl _)⟩⟩⟩
    | str z =>
      cases hA
      cases hB
      refine iteF ⟨_, rfl, _, _, u2, _, _, rfl, .ty _, ty2, kit_str kt2, _, rfl, iteT ?_⟩
      exact ⟨_, rfl, _, _, u, _, _, rfl, .ty _, ty, kit_str kt, _, rfl, iteT ⟨_, rfl, _, rfl, by simp [scal], by simpa using q H (.refl _)⟩⟩
    | tup ts =>
      refine iteF ⟨_, rfl, _, _, u2, _, _, rfl, .ty _, ty2, kit_str kt2, _, rfl, iteF ?_⟩
      have nb : ∀ b : Bool, (!decide (V.bl b = V.bl b)) = false := fun b => by simp
      obtain ⟨pa, va, rfl, ea, ia⟩ := hA.tup_inv
      obtain ⟨pb, vb, rfl, eb, ib⟩ := hB.tup_inv
      have la := ia.len
      have lb := ib.len
      have l100 := hW.1
      refine ⟨_, rfl, _, _, u2, _, _, rfl, .ty _, ty2, kit_tup kt2, _, rfl, _, _, u, _, _, rfl, .ty _, ty, kit_tup kt, rfl, _, rfl, ?_⟩
      rw [nb]
      refine iteF ⟨_, rfl, _, _, u2, _, _, rfl, .ty _, ty2, kit_list kt2, _, rfl, _, _, u, _, _, rfl, .ty _, ty, kit_list kt, rfl, _, rfl, ?_⟩
      rw [nb]
      refine iteF ⟨_, rfl, (by show 2 ≤ sizeLine; decide), fun tp htp => ?_⟩
      have s1 := same_upd htp (.tup [V.ty "tuple", V.ty "list"])
      obtain ⟨u3, ty3, kt3⟩ := (hA.same s1).ty (K := K)
      refine ⟨_, tp, _, u3, _, true, rfl, upd_same, .cons (.ty _) (.cons (.ty _) .nil), ty3, kitAny_cons (kit_tup kt3) (fun e => by cases e) (fun _ => rfl), _, rfl, iteF ?_⟩
      have ea1 := s1 _ _ ea
      have eb1 := s1 _ _ eb
      refine ⟨_, rfl, pa, va, rfl, .inr (.inl (.inl ea1)), _, rfl, pb, vb, rfl, .inr (.inl (.inl eb1)), rfl, _, rfl, ?_⟩
      rw [la, lb, show (!decide (V.int (ts.length : Int) = V.int (ts.length : Int))) = false by simp]
      refine iteF ⟨_, rfl, pb, vb, rfl, .inr (.inl (.inl eb1)), (vb.length : Int), rfl, by omega, by omega, fun D hD => ?_⟩
      refine lc_range (lo := 0) (n := ((vb.length : Nat) : Int).toNat) (fun i H3 => Same _ H3 ∧ ∃ bs : List V, H3 D = some (.lst bs) ∧ (∀ x ∈ bs, x = V.bl true) ∧ bs.length = i) ⟨same_upd hD _, [], upd_same, by simp, rfl⟩ ?_ ?_
      · rintro i H3 hi ⟨s3, bs, eD, hb, hl⟩
        have hi' : i < ts.length := by omega
        have xa : va[i]? = some (va[i]'(by omega)) := List.getElem?_eq_getElem _
        have xb : vb[i]? = some (vb[i]'(by omega)) := List.getElem?_eq_getElem _
        obtain ⟨t, ht, it⟩ := ia.get xa
        obtain ⟨t2, ht2, it2⟩ := ib.get xb
        rw [ht] at ht2
        cases ht2
        have s13 := s1.trans s3
        refine ⟨rfl, yes_if ⟨_, rfl, _, rfl, pa, va, _, _, rfl, rfl, .inl (.inl (s13 _ _ ea)), by rw [Int.zero_add]; exact atI_nat xa, _, rfl, _, rfl, pb, vb, _, _, rfl, rfl, .inl (.inl (s13 _ _ eb)), by rw [Int.zero_add]; exact atI_nat xb, _, _, t, rfl, it.same s13, it2.same s13, hW.2 t (List.mem_of_getElem? ht), fun H4 s4 => ⟨bs, s4 _ _ eD, small1000 (by omega), Kx.Same.own (s3.trans s4) hD _, bs ++ [V.bl true], upd_same, fun x hx => ?_, by rw [List.length_append, hl]; rfl⟩⟩⟩
        rcases List.mem_append.mp hx with h | h
        · exact hb x h
        · exact List.mem_singleton.mp h
      · rintro H3 ⟨s3, bs, eD, hb, hl⟩
        obtain ⟨h1, h2⟩ := all_tr hb
        have := q H3 (s1.trans s3)
        rw [← h1] at this
        exact ⟨D, bs, rfl, .inl (SqL.of eD), rfl, h2, this⟩
theorem all_same (T : Txt K mg) : ∀ n, FnOk P w K mg base CX0 (n + 1) T.a_law_same T.d_law_same ["told", "due"] (spSame n)
  | 0 => no_left fun vs H Q E ⟨_, _, _, _, _, _, h, _⟩ => h
  | n + 1 => ok_law_same T (all_same T n)
end
end Kx
namespace Kx
open PySem PySem.Spec PyProof.Rows L2
section
variable {P : Program} {w : World} {K : PySem.W.Frag} {mg : Str → Option Value} {base : Heap}
set_option pp.maxSteps 1200
/-! ### words and signs as they are read -/
def WkB (z : Str) : Prop := 1 ≤ z.length ∧ z.length ≤ 12 ∧ Txt.isascii z = true ∧ Txt.isalnum z = true ∧ ∃ c, z.cps.toList[0]? = some c ∧ Txt.isalpha ⟨#[c]⟩ = true
def wkb (z : Str) : Bool := decide (1 ≤ z.length) && (decide (z.length ≤ 12) && (Txt.isascii z && (Txt.isalnum z && match z.cps.toList with | c :: _ => Txt.isalpha ⟨#[c]⟩ | [] => false)))
theorem wkb_of {z : Str} (h : wkb z = true) : WkB z := by
  unfold wkb at h
  simp only [Bool.and_eq_true, decide_eq_true_eq] at h
  obtain ⟨h1, h2, h3, h4, h5⟩ := h
  refine ⟨h1, h2, h3, h4, ?_⟩
  cases e : z.cps.toList with
  | nil => rw [e] at h5; cases h5
  | cons c r => rw [e] at h5; exact ⟨c, rfl, h5⟩
def spWord : Sp := fun vs H Q _ => ∃ z, vs = [.str z] ∧ WkB z ∧ Q (.bl true) H
theorem ok_is_word (T : Txt K mg)  : FnOk P w K mg base CX0 1 T.a_is_word T.d_is_word ["value"] spWord := by
  refine T.F_is_word.ok sc_is_word (fun vs H Q E h => ?_) (fun cdv A outer s H vs Q E hr h => ?_)
  · obtain ⟨z, rfl, _⟩ := h; rfl
  · obtain ⟨z, rfl, ⟨h1, h2, h3, h4, c, hc, h5⟩, q⟩ := h
    refine ⟨_, (pss_cons (ps_if (PW.pt (pw_or (pt_not (pt_val (pe_callB call_isi (by rfl) T.z_isinstance (by decide +kernel) (pa_cons (pv 0) (pa_cons (pe_bltn rfl T.z_str (by decide +kernel) (show RelV (V.ty "str") (Value.type "str") from rfl)) pa_nil))))) (pw_or1 (pt_not (pt_chain op_le op_le pe_int (pe_callB call_len_str (by rfl) T.z_len (by decide +kernel) (pa_cons (pv 0) pa_nil)) (pe_glob (by rfl) T.g_MOST_NAME (show RelV (V.int 12) (.int 12 T.t_MOST_NAME) from ⟨_, rfl⟩)) (by with_unfolding_all rfl)))))) (pss_one (ps_ret pe_bl)) pss_nil)
    (pss_one (ps_ret (pe_and (pe_bm0 PySem.F.plainAttrs_str PySem.F.slot_str_isascii PySem.F.type_str_isascii mt_isascii (pv 0)) (pe_and (pe_m0 PySem.F.slot_str_isalnum PySem.F.type_str_isalnum mt_isalnum (pv 0)) (pe_one (pe_m0 PySem.F.slot_str_isalpha PySem.F.type_str_isalpha mt_isalpha (pe_ix ix_str (pv 0) pe_int (fun _ _ => rfl))))))))), ?_⟩
    refine ⟨_, rfl, _, _, .type "str", _, true, rfl, .ty _, .base (.str z), kit_ty (show kitB "str" "str" = some true by decide +kernel), _, rfl, iteF ?_⟩
    refine ⟨_, rfl, z, rfl, small7 (by omega), _, _, rfl, rfl, _, rfl, ?_⟩
    rw [show decide ((1 : Int) ≤ (z.length : Int)) = true from decide_eq_true (by omega)]
    refine iteT ⟨_, _, rfl, rfl, _, rfl, ?_⟩
    rw [show decide ((z.length : Int) ≤ 12) = true from decide_eq_true (by omega)]
    refine iteF ⟨_, rfl, rfl, z, rfl, rfl, trivial, _, rfl, ?_⟩
    rw [h3]
    refine iteT ⟨_, rfl, ⟨z, rfl⟩, z, rfl, rfl, trivial, _, rfl, ?_⟩
    rw [h4]
    refine iteT ⟨_, rfl, z, 0, c, rfl, rfl, small7 (by omega), atI_nat (j := 0) hc, ⟨_, rfl⟩, _, rfl, rfl, trivial, ?_⟩
    rw [h5]; exact q
/-- a sign of a row -/
def okr (c : Nat) : Prop := 32 ≤ c ∧ c ≤ 126 ∧ c ≠ 37
instance (c : Nat) : Decidable (okr c) := by unfold okr; infer_instance
theorem okc.r {c : Nat} (h : okc c) : okr c := ⟨h.1, h.2.1, h.2.2.1⟩
def OkR (l : List Nat) : Prop := ∀ c ∈ l, okr c
theorem Ok.r {l : List Nat} (h : Ok l) : OkR l := fun c hc => (h c hc).r
def spAllowed : Sp := fun vs H Q _ => ∃ c : Nat, vs = [.str ⟨#[c]⟩] ∧ (c = 10 ∨ okr c) ∧ Q (.bl true) H
theorem le_facts : ∀ c : Nat, c < 127 → okr c → (!decide ([c] < [32])) = true ∧ (!decide ([126] < [c])) = true := by decide +kernel
theorem ok_is_allowed (T : Txt K mg)  : FnOk P w K mg base CX0 1 T.a_is_allowed T.d_is_allowed ["sign"] spAllowed := by
  refine T.F_is_allowed.ok sc_is_allowed (fun vs H Q E h => ?_) (fun cdv A outer s H vs Q E hr h => ?_)
  · obtain ⟨c, rfl, _⟩ := h; rfl
  · obtain ⟨c, rfl, hc, q⟩ := h
    refine ⟨_, (pss_one (ps_ret (pe_or (pe_cmpR op_eq (pv 0) pe_str (nomark _)) (pe_one (pe_and (pe_chain op_le_str op_le_str pe_str (pv 0) pe_str (by with_unfolding_all rfl)) (pe_one (pe_cmpR op_ne (pe_callB call_ord (by rfl) T.z_ord (by decide +kernel) (pa_cons (pv 0) pa_nil)) (pe_glob (by rfl) T.g_PERCENT_CODE (show RelV (V.int 37) (.int 37 T.t_PERCENT_CODE) from ⟨_, rfl⟩)) (nomark _)))))))), ?_⟩
    refine ⟨_, rfl, rfl, _, rfl, ?_⟩
    by_cases h10 : c = 10
    · subst h10
      rw [show decide (V.str ⟨#[10]⟩ = V.str "\n") = true by decide]
      exact iteT q
    · have hk := hc.resolve_left h10
      obtain ⟨f1, f2⟩ := le_facts c (by have := hk.2.1; omega) hk
      rw [show decide (V.str ⟨#[c]⟩ = V.str "\n") = false from decide_eq_false (fun e => by
        have e2 := congrArg cs (V.str.inj e)
        have e3 : [c] = [10] := e2
        exact h10 (by simpa using e3))]
      refine iteF ⟨_, rfl, _, _, rfl, rfl, _, rfl, ?_⟩
      rw [show (!decide (({ cps := #[c] } : Str).cps.toList < (" " : Str).cps.toList)) = true from f1]
      refine iteT ⟨_, _, rfl, rfl, _, rfl, ?_⟩
      rw [show (!decide (("~" : Str).cps.toList < ({ cps := #[c] } : Str).cps.toList)) = true from f2]
      refine iteT ⟨_, rfl, _, rfl, rfl, rfl, ?_⟩
      have h37 : (!decide (V.int (((({ cps := #[c] } : Str).cps.getD 0 0 : Nat)) : Int) = V.int 37)) = true := by
        have : c ≠ 37 := hk.2.2
        have e : (({ cps := #[c] } : Str).cps.getD 0 0) = c := rfl
        rw [e, dec_int]
        have : ¬ ((c : Int) = 37) := by omega
        simpa using this
      rw [h37]; exact q
theorem for_str {z : Str} {g : TG} {tb : TS} {D : Ends} {σ : L2.St} {H : Hp} (Pv : Nat → L2.St → Hp → Prop) (h0 : Pv 0 σ H)
    (hs : ∀ (i : Nat) (c : Nat) (σ : L2.St) (H : Hp), z.cps[i]? = some c → Pv i σ H → g (.str ⟨#[c]⟩) σ H fun σ2 H2 => tb { D with nx := Pv (i + 1), ct := Pv (i + 1), bk := D.nx } σ2 H2) (hd : ∀ σ H, Pv z.cps.size σ H → D.nx σ H) :
    ∃ W : Nat → Nat → L2.St → Hp → Prop, (∃ m, W 0 m σ H) ∧ ∀ i m σ H, W i m σ H →
      ((Its z).stop i H ∧ D.nx σ H) ∨ ((Its z).go i H ∧ ∃ N : L2.St → Hp → Prop, (∀ σ' H', N σ' H' → ∃ m', m' < m ∧ W (i + 1) m' σ' H') ∧ ∀ v H', (Its z).yld i H v H' → g v σ H' fun σ2 H2 => tb { D with nx := N, ct := N, bk := D.nx } σ2 H2) := by
  refine ⟨fun i m σ H => m = z.cps.size - i ∧ i ≤ z.cps.size ∧ Pv i σ H, ⟨_, rfl, Nat.zero_le _, h0⟩, fun i m σ H w => ?_⟩
  obtain ⟨rfl, le, pv⟩ := w
  rcases Nat.lt_or_ge i z.cps.size with lt | ge
  · refine .inr ⟨lt, Pv (i + 1), fun σ' H' p' => ⟨z.cps.size - (i + 1), by omega, rfl, lt, p'⟩, ?_⟩
    rintro v H2 ⟨e2, c, ec, rfl⟩
    rw [e2]
    exact hs i c σ H ec pv
  · have e : i = z.cps.size := Nat.le_antisymm le ge
    exact .inl ⟨ge, hd σ H (e ▸ pv)⟩
theorem pre_ten {p : List Nat} (h : 10 ∉ p) (k : Nat) : TL.pre [10] (p.drop k) = false := by
  unfold TL.pre
  cases e : p.drop k with
  | nil => rfl
  | cons a r =>
    have ha : a ∈ p := List.mem_of_mem_drop (by rw [e]; exact List.mem_cons_self ..)
    have : a ≠ 10 := fun q => h (q ▸ ha)
    show ([a] == [10]) = false
    simpa using this
theorem pre_ten2 {p r : List Nat} (h : 10 ∉ p) {k : Nat} (hk : k < p.length) : TL.pre [10] ((p ++ ([10] ++ r)).drop k) = false := by
  unfold TL.pre
  rw [List.drop_append_of_le_length (Nat.le_of_lt hk)]
  cases e : p.drop k with
  | nil => have := congrArg List.length e; rw [List.length_drop] at this; simp at this; omega
  | cons a q =>
    have ha : a ∈ p := List.mem_of_mem_drop (by rw [e]; exact List.mem_cons_self ..)
    have : a ≠ 10 := fun q => h (q ▸ ha)
    show ([a] == [10]) = false
    simpa using this
theorem spl_full : ∀ ls : List (List Nat), (∀ l ∈ ls, 10 ∉ l) → TL.spl [10] 0 [] (fullT ls) = ls ++ [[]]
  | [], _ => rfl
  | a :: r, h => by
    have e : fullT (a :: r) = a ++ ([10] ++ fullT r) := by simp [fullT]
    rw [e, TL.spl_part (by simp) fun i hi => pre_ten2 (h a (List.mem_cons_self ..)) hi, spl_full r fun l hl => h l (List.mem_cons_of_mem _ hl)]
    rfl
theorem split_full (ls : List (List Nat)) (h : ∀ l ∈ ls, 10 ∉ l) : Txt.split (mkS (fullT ls)) "\n" = ls.map mkS ++ [Str.empty] := by
  have e := TL.split_spl (mkS (fullT ls)) "\n" (by decide +kernel) (TL.kind_ok (by decide +kernel))
  rw [show TL.tl ("\n" : Str) = [10] from rfl, show TL.tl (mkS (fullT ls)) = fullT ls from cs_mk _, spl_full ls h] at e
  have e2 : ((Txt.split (mkS (fullT ls)) "\n").map TL.tl).map mkS = (ls ++ [[]]).map mkS := by rw [e]
  rw [List.map_map] at e2
  rw [show (mkS ∘ TL.tl) = id from funext fun x => mk_cs x, List.map_id] at e2
  rw [e2, List.map_append]
  rfl
def spRowsOf : Sp := fun vs H Q _ => ∃ ls : List (List Nat), vs = [SV (fullT ls)] ∧ (fullT ls).length ≤ 6000 ∧ (∀ l ∈ ls, OkR l) ∧ ∀ p H', Same H H' → H p = none → H' p = some (.lst (ls.map SV)) → Q (.ref p) H'
theorem full_mem {ls : List (List Nat)} (h : ∀ l ∈ ls, OkR l) : ∀ c ∈ fullT ls, c = 10 ∨ okr c := fun c hc => by
  unfold fullT at hc
  obtain ⟨l, hl, hc⟩ := List.mem_flatten.mp hc
  obtain ⟨x, hx, rfl⟩ := List.mem_map.mp hl
  rcases List.mem_append.mp hc with h1 | h1
  · exact .inr (h x hx c h1)
  · exact .inl (List.mem_singleton.mp h1)
theorem sIx_m1 (n d : Nat) : HT.sIx n d (some (-1)) = ((-1 : Int) + (n : Int)).toNat := by
  show (if (-1 : Int) < 0 then ((-1 : Int) + (n : Int)).toNat else min (-1 : Int).toNat n) = _
  rw [if_pos (by decide)]
theorem ok_no10 {l : List Nat} (h : OkR l) : 10 ∉ l := fun hm => by have := (h 10 hm).1; omega
theorem ok_rows_of (T : Txt K mg) (G_is_allowed : FnOk P w K mg base CX0 1 T.a_is_allowed T.d_is_allowed ["sign"] spAllowed) : FnOk P w K mg base CX0 2 T.a_rows_of T.d_rows_of ["text"] spRowsOf := by
  refine T.F_rows_of.ok sc_rows_of (fun vs H Q E h => ?_) (fun cdv A outer s H vs Q E hr h => ?_)
  · obtain ⟨ls, rfl, _⟩ := h; rfl
  · obtain ⟨ls, rfl, hl, hk, q⟩ := h
    have hr_is_allowed := hr
    refine ⟨_, (pss_cons (ps_if (PW.pt (pw_or (pt_not (pt_val (pe_callB call_isi (by rfl) T.z_isinstance (by decide +kernel) (pa_cons (pv 0) (pa_cons (pe_bltn rfl T.z_str (by decide +kernel) (show RelV (V.ty "str") (Value.type "str") from rfl)) pa_nil))))) (pw_or1 (pt_cmpR op_gt (pe_callB call_len_str (by rfl) T.z_len (by decide +kernel) (pa_cons (pv 0) pa_nil)) (pe_glob (by rfl) T.g_MOST_TEXT (show RelV (V.int 6000) (.int 6000 T.t_MOST_TEXT) from ⟨_, rfl⟩)) (nomark _))))) (pss_one ps_never) pss_nil)
    (pss_cons (ps_for PassesOwn.never rfl (pi_str (pv 0)) (pg_name (i := 1) sc_rows_of.nd rfl (Or.inl rfl))
    (pss_one (ps_if (pt_not (pt_val (pe_call G_is_allowed hr_is_allowed rfl T.m_is_allowed T.F_is_allowed.kp T.b_is_allowed .nil pass0 (pa_cons (pv 1) pa_nil)))) (pss_one ps_never) pss_nil)))
    (pss_one (ps_ret (pe_slice sl_list (pe_split (pv 0) pe_str) po_none (po_some (pe_un un_neg pe_int))))))), ?_⟩
    have hlen : (mkS (fullT ls)).length = (fullT ls).length := mk_len _
    refine ⟨_, rfl, _, _, .type "str", _, true, rfl, .ty _, .base (.str _), kit_ty (show kitB "str" "str" = some true by decide +kernel), _, rfl, iteF ?_⟩
    refine ⟨_, rfl, _, rfl, small7 (by omega), _, _, rfl, rfl, _, rfl, ?_⟩
    rw [show decide ((6000 : Int) < ((mkS (fullT ls)).length : Int)) = false from decide_eq_false (by omega)]
    refine iteF ⟨_, rfl, _, rfl, ?_⟩
    refine for_str (fun i σ H' => ∃ y, σ = [some (SV (fullT ls)), y] ∧ H' = H) ?_ ?_ ?_
    · exact ⟨_, rfl, rfl⟩
    · rintro i c σ H' hc ⟨y, rfl, rfl⟩
      have hm : c ∈ fullT ls := by
        have := Array.mem_of_getElem? hc
        simpa [mkS] using this
      refine ⟨_, rfl, c, rfl, full_mem hk c hm, _, rfl, iteF ⟨_, rfl, rfl⟩⟩
    · rintro σ H' ⟨y, rfl, rfl⟩
      have hsp := split_full ls fun l hl => ok_no10 (hk l hl)
      refine ⟨_, rfl, ⟨_, rfl⟩, _, _, rfl, rfl, rfl, by rw [hlen]; exact small7 (by omega), fun p hp => ⟨_, rfl, _, rfl, p, _, rfl, SqL.of upd_same, fun p2 hp2 => ?_⟩⟩
      have s1 := same_upd hp (.lst ((Txt.split (mkS (fullT ls)) "\n").map V.str))
      refine q p2 _ (s1.trans (same_upd hp2 _)) (s1.free hp2) ?_
      rw [upd_same, hsp]
      congr 2
      unfold cutV
      rw [List.map_append, List.map_map]
      have e1 : HT.sIx ((ls.map (V.str ∘ mkS)) ++ [Str.empty].map V.str).length ((ls.map (V.str ∘ mkS)) ++ [Str.empty].map V.str).length (some (-1)) = ls.length := by
        rw [sIx_m1]
        simp only [List.length_append, List.length_map, List.length_cons, List.length_nil]
        omega
      rw [e1, HT.sIx_none, List.drop_zero, Nat.sub_zero, List.take_left' (by rw [List.length_map])]
      rfl
/-! ### tokens -/
def wl : List Nat → Nat
  | [] => 0
  | c :: r => if isAl c = true then wl r + 1 else 0
def tlen (l : List Nat) : Nat := if 0 < wl l then wl l else if l.take 2 = [45, 62] then 2 else 1
theorem wl_no {c : Nat} {l : List Nat} (h : isAl c = false) : wl (c :: l) = 0 := by
  show (if isAl c = true then wl l + 1 else 0) = 0
  rw [h]; rfl
theorem wl_yes {c : Nat} {l : List Nat} (h : isAl c = true) : wl (c :: l) = wl l + 1 := by
  show (if isAl c = true then wl l + 1 else 0) = _
  rw [h]; rfl
theorem wl_app {w l : List Nat} (h : ∀ c ∈ w, isAl c = true) (s : Stp l) : wl (w ++ l) = w.length := by
  induction w with
  | nil =>
    cases l with
    | nil => rfl
    | cons c r => exact wl_no (s c r rfl)
  | cons a w ih => rw [List.cons_append, wl_yes (h a (List.mem_cons_self ..)), ih fun c hc => h c (List.mem_cons_of_mem _ hc)]; rfl
theorem wl_le : ∀ l : List Nat, wl l ≤ l.length
  | [] => Nat.le_refl _
  | c :: r => by
    have := wl_le r
    cases h : isAl c with
    | true => rw [wl_yes h, List.length_cons]; omega
    | false => rw [wl_no h]; exact Nat.zero_le _
theorem wl_al : ∀ {l : List Nat} {j c : Nat}, j < wl l → l[j]? = some c → isAl c = true
  | a :: r, j, c, h, e => by
    cases ha : isAl a with
    | false => rw [wl_no ha] at h; omega
    | true =>
      rw [wl_yes ha] at h
      cases j with
      | zero => cases e; exact ha
      | succ j => exact wl_al (l := r) (j := j) (by omega) (by simpa using e)
theorem wl_end : ∀ {l : List Nat} {c : Nat}, l[wl l]? = some c → isAl c = false
  | [], c, e => by simp [wl] at e
  | a :: r, c, e => by
    cases ha : isAl a with
    | false => rw [wl_no ha] at e; cases e; exact ha
    | true => rw [wl_yes ha] at e; exact wl_end (l := r) (by simpa using e)
theorem isal_one (c : Nat) : Txt.isalnum ⟨#[c]⟩ = isAl c := by simp [Txt.isalnum, Str.length]
theorem sw3 {x : List Nat} {k : Nat} (h : k ≤ x.length) : Txt.startswith3 (mkS x) "->" (k : Int) = decide ((x.drop k).take 2 = [45, 62]) := by
  have hf : fromIndex (mkS x).length (k : Int) = k := by unfold fromIndex; split <;> omega
  unfold Txt.startswith3
  rw [hf, StrLaws.subAt_eq, mk_len, show (mkS x).cps.toList = x from cs_mk x, show ("->" : Str).length = 2 from rfl, show ("->" : Str).cps.toList = [45, 62] from rfl]
  by_cases h2 : (x.drop k).take 2 = [45, 62]
  · have := congrArg List.length h2
    rw [List.length_take, List.length_drop] at this
    rw [decide_eq_true h2, decide_eq_true (show k + 2 ≤ x.length by simp at this; omega), h2]
    rfl
  · rw [decide_eq_false h2, show ((x.drop k).take 2 == [45, 62]) = false by simpa using h2, Bool.and_false]
def spEnd : Sp := fun vs H Q _ => ∃ (x : List Nat) (k : Nat), vs = [SV x, .int k] ∧ k < x.length ∧ x.length ≤ 10000 ∧ Q (.int ((k + tlen (x.drop k) : Nat) : Int)) H
theorem at_drop {x : List Nat} {k j : Nat} : (x.drop k)[j]? = x[k + j]? := List.getElem?_drop ..
theorem ok_token_end (T : Txt K mg)  : FnOk P w K mg base CX0 1 T.a_token_end T.d_token_end ["row", "start"] spEnd := by
  refine T.F_token_end.ok sc_token_end (fun vs H Q E h => ?_) (fun cdv A outer s H vs Q E hr h => ?_)
  · obtain ⟨x, k, rfl, _⟩ := h; rfl
  · obtain ⟨x, k, rfl, hk, hl, q⟩ := h
    refine ⟨_, (pss_cons (ps_set (i := 2) sc_token_end.nd rfl (Or.inl rfl) (pv 1))
    (Evl.pss_cut (ps_while PassesOwn.never (PW.pt (pw_and (pt_cmpR op_lt (pv 2) (pe_callB call_len_str (by rfl) T.z_len (by decide +kernel) (pa_cons (pv 0) pa_nil)) (nomark _)) (pw_and1 (pt_val (pe_m0 PySem.F.slot_str_isalnum PySem.F.type_str_isalnum mt_isalnum (pe_ix ix_str (pv 0) (pv 2) (fun _ _ => rfl)))))))
    (pss_one (ps_aug (i := 2) sc_token_end.nd rfl (Or.inl rfl) pe_int ip_add)))
    (pss_cons (ps_if (pt_cmpR op_gt (pv 2) (pv 1) (nomark _)) (pss_one (ps_ret (pv 2))) pss_nil)
    (pss_one (ps_ret (pe_ifExp (pt_val (pe_bm PySem.F.plainAttrs_str PySem.F.slot_str_startswith PySem.F.type_str_startswith mt_startswith3 (pv 0) (pa_cons pe_str (pa_cons (pv 1) pa_nil)))) (pe_op op_add (pv 1) pe_int) (pe_op op_add (pv 1) pe_int))))))), ?_⟩
    have hlen : (mkS x).length = x.length := mk_len _
    have hwl := wl_le (x.drop k)
    rw [List.length_drop] at hwl
    refine ⟨_, rfl, ?_⟩
    have hdl : (x.drop k).length = x.length - k := List.length_drop ..
    refine ⟨fun σ H' => σ = [some (SV x), some (.int k), some (.int ((k + wl (x.drop k) : Nat) : Int))] ∧ H' = H, ?_, ?_⟩
    · refine ⟨fun m σ H' => ∃ j, σ = [some (SV x), some (.int k), some (.int ((k + j : Nat) : Int))] ∧ H' = H ∧ j ≤ wl (x.drop k) ∧ m = wl (x.drop k) - j, ⟨_, 0, rfl, rfl, Nat.zero_le _, rfl⟩, ?_⟩
      rintro m σ H' ⟨j, rfl, rfl, hj, rfl⟩
      refine ⟨_, rfl, _, rfl, _, rfl, small7 (by omega), _, _, rfl, rfl, _, rfl, ?_⟩
      by_cases hjl : k + j < x.length
      case neg =>
        rw [show decide (((k + j : Nat) : Int) < ((mkS x).length : Int)) = false from decide_eq_false (by omega)]
        have : j = wl (x.drop k) := by omega
        exact iteF (iteF ⟨by rw [this], rfl⟩)
      rw [show decide (((k + j : Nat) : Int) < ((mkS x).length : Int)) = true from decide_eq_true (by omega)]
      obtain ⟨c, hc⟩ : ∃ c, x[k + j]? = some c := ⟨_, List.getElem?_eq_getElem hjl⟩
      refine iteT ⟨_, rfl, _, rfl, mkS x, ((k + j : Nat) : Int), c, rfl, rfl, small7 (by omega), atI_nat (by show (cs (mkS x))[k + j]? = _; rw [cs_mk]; exact hc), ⟨_, rfl⟩, _, rfl, rfl, trivial, _, rfl, ?_⟩
      rw [isal_one]
      by_cases hw : j < wl (x.drop k)
      case pos =>
        rw [wl_al hw (by rw [at_drop]; exact hc)]
        refine iteT ⟨fun σ H2 => ∃ j', σ = [some (SV x), some (.int k), some (.int ((k + j' : Nat) : Int))] ∧ H2 = H' ∧ j' = j + 1, fun σ' H' ⟨j', r1, r2, r3⟩ => ⟨wl (x.drop k) - j', by omega, j', r1, r2, by omega, rfl⟩, ?_⟩
        exact ⟨_, rfl, _, _, rfl, rfl, j + 1, rfl, rfl, rfl⟩
      have hje : j = wl (x.drop k) := by omega
      rw [wl_end (by rw [← hje, at_drop]; exact hc)]
      exact iteF ⟨by rw [hje], rfl⟩
    · rintro σ H' ⟨rfl, rfl⟩
      refine ⟨_, rfl, _, rfl, _, _, rfl, rfl, _, rfl, ?_⟩
      by_cases h0 : 0 < wl (x.drop k)
      case pos =>
        rw [show decide ((k : Int) < ((k + wl (x.drop k) : Nat) : Int)) = true from decide_eq_true (by omega)]
        rw [show tlen (x.drop k) = wl (x.drop k) from if_pos h0] at q
        exact iteT ⟨_, rfl, q⟩
      rw [show decide ((k : Int) < ((k + wl (x.drop k) : Nat) : Int)) = false from decide_eq_false (by omega)]
      rw [show tlen (x.drop k) = if (x.drop k).take 2 = [45, 62] then 2 else 1 from if_neg h0] at q
      refine iteF ⟨_, rfl, rfl, _, rfl, mkS x, "->", (k : Int), rfl, rfl, _, rfl, ?_⟩
      rw [sw3 (by omega)]
      by_cases h2 : (x.drop k).take 2 = [45, 62]
      · rw [if_pos h2] at q
        rw [decide_eq_true h2]
        exact iteT ⟨_, rfl, _, _, rfl, rfl, q⟩
      · rw [if_neg h2] at q
        rw [decide_eq_false h2]
        exact iteF ⟨_, rfl, _, _, rfl, rfl, q⟩
theorem toks_step {l : List Nat} {T : List (List Nat)} (h : Toks l T) (ne : l ≠ []) : 0 < tlen l ∧ tlen l ≤ l.length ∧ ((l[0]? = some 32 ∧ Toks (l.drop (tlen l)) T) ∨ (l[0]? ≠ some 32 ∧ ∃ T3, T = l.take (tlen l) :: T3 ∧ Toks (l.drop (tlen l)) T3)) := by
  cases h with
  | nil => exact absurd rfl ne
  | @sp l T h =>
    have e : tlen (32 :: l) = 1 := by
      unfold tlen
      rw [wl_no al_32, if_neg (by omega), if_neg (by simp)]
    rw [e]
    exact ⟨by decide, by simp, .inl ⟨rfl, h⟩⟩
  | @word w l T n a st h =>
    have hp : 0 < w.length := List.length_pos_iff.mpr n
    have e : tlen (w ++ l) = w.length := by
      unfold tlen
      rw [wl_app a st, if_pos hp]
    rw [e]
    refine ⟨hp, by rw [List.length_append]; omega, .inr ⟨fun q => ?_, T, ?_, ?_⟩⟩
    · cases w with
      | nil => exact n rfl
      | cons b r =>
        cases q
        have := a 32 (List.mem_cons_self ..)
        rw [show isAl 32 = false from al_32] at this
        cases this
    · rw [List.take_left]
    · rw [List.drop_left]; exact h
  | @arrow l T h =>
    have e : tlen (45 :: 62 :: l) = 2 := by
      unfold tlen
      rw [wl_no al_45, if_neg (by omega), if_pos (by simp)]
    rw [e]
    exact ⟨by decide, by simp, .inr ⟨by simp, T, rfl, h⟩⟩
  | @sign c l T a n m h =>
    have e : tlen (c :: l) = 1 := by
      unfold tlen
      rw [wl_no a, if_neg (by omega), if_neg (by
        intro q
        cases l with
        | nil => simp at q
        | cons d r => simp only [List.take_succ_cons, List.cons.injEq] at q; exact m q.1)]
    rw [e]
    exact ⟨by decide, by simp, .inr ⟨by simpa using n, T, rfl, h⟩⟩
theorem small7k {n : Nat} (h : n ≤ 7000) : n < sizeLine := by rw [sizeLine_eq]; omega
def spTokens : Sp := fun vs H Q _ => ∃ (x : List Nat) (T : List (List Nat)), vs = [SV x] ∧ Toks x T ∧ x.length ≤ 6000 ∧ ∀ p H', H p = none → Same H H' → H' p = some (.lst (T.map SV)) → T.length ≤ 6000 → Q (.ref p) H'
theorem cut_mid {x : List Nat} {k e : Nat} (h1 : k ≤ e) (h2 : e ≤ x.length) : cutS (mkS x) (some (k : Int)) (some (e : Int)) = mkS ((x.drop k).take (e - k)) := by
  unfold cutS
  rw [HT.sIx_nat, HT.sIx_nat, mk_len, Nat.min_eq_left h2, Nat.min_eq_left (Nat.le_trans h1 h2)]
  rfl
theorem ok_tokens_of (T : Txt K mg) (G_token_end : FnOk P w K mg base CX0 1 T.a_token_end T.d_token_end ["row", "start"] spEnd) : FnOk P w K mg base CX0 2 T.a_tokens_of T.d_tokens_of ["row"] spTokens := by
  refine T.F_tokens_of.ok sc_tokens_of (fun vs H Q E h => ?_) (fun cdv A outer s H vs Q E hr h => ?_)
  · obtain ⟨x, U, rfl, _⟩ := h; rfl
  · obtain ⟨x, U, rfl, hT, hl, q⟩ := h
    have hr_token_end := hr
    refine ⟨_, (pss_cons (ps_set (i := 1) sc_tokens_of.nd rfl (Or.inl rfl) (pe_lst pa_nil))
    (pss_cons (ps_set (i := 2) sc_tokens_of.nd rfl (Or.inl rfl) pe_int)
    (pss_cons (ps_while PassesOwn.never (pt_cmpR op_lt (pv 2) (pe_callB call_len_str (by rfl) T.z_len (by decide +kernel) (pa_cons (pv 0) pa_nil)) (nomark _))
    (pss_cons (ps_set (i := 3) sc_tokens_of.nd rfl (Or.inl rfl) (pe_call G_token_end hr_token_end rfl T.m_token_end T.F_token_end.kp T.b_token_end .nil pass0 (pa_cons (pv 0) (pa_cons (pv 2) pa_nil))))
    (pss_cons (ps_if (pt_cmpR op_ne (pe_ix ix_str (pv 0) (pv 2) (fun _ _ => rfl)) pe_str (nomark _)) (pss_one (ps_expr (pe_bm PySem.F.plainAttrs_list PySem.F.slot_list_append PySem.F.type_list_append mt_append (pv 1) (pa_cons (pe_slice sl_str (pv 0) (po_some (pv 2)) (po_some (pv 3))) pa_nil)))) pss_nil)
    (pss_one (ps_set (i := 2) sc_tokens_of.nd rfl (Or.inl rfl) (pv 3))))))
    (pss_one (ps_ret (pv 1)))))), ?_⟩
    have hlen : (mkS x).length = x.length := mk_len _
    refine ⟨by decide, fun p hp => ?_⟩
    refine ⟨fun m σ H' => ∃ (k : Nat) (T1 T2 : List (List Nat)) (y : Option V), σ = [some (SV x), some (.ref p), some (.int k), y] ∧ k ≤ x.length ∧ Toks (x.drop k) T2 ∧ U = T1 ++ T2 ∧ T1.length ≤ k ∧ Same H H' ∧ H' p = some (.lst (T1.map SV)) ∧ m = x.length - k, ⟨_, 0, [], U, _, rfl, Nat.zero_le _, hT, rfl, Nat.zero_le _, same_upd hp _, upd_same, rfl⟩, ?_⟩
    rintro m σ H' ⟨k, T1, T2, y, rfl, hk, hT2, rfl, h1, s1, e1, rfl⟩
    refine ⟨_, rfl, _, rfl, _, rfl, small7 (by omega), _, _, rfl, rfl, _, rfl, ?_⟩
    by_cases hkl : k < x.length
    case neg =>
      rw [show decide ((k : Int) < ((mkS x).length : Int)) = false from decide_eq_false (by omega)]
      have e0 : x.drop k = [] := List.drop_eq_nil_of_le (by omega)
      rw [e0] at hT2
      have : T2 = [] := by
        generalize hz : ([] : List Nat) = z at hT2
        cases hT2 with
        | nil => rfl
        | sp h => cases hz
        | word n a e h =>
          have := congrArg List.length hz
          rw [List.length_append] at this
          have := List.length_pos_iff.mpr n
          simp at *
          omega
        | arrow h => cases hz
        | sign a n m h => cases hz
      subst this
      rw [List.append_nil] at q
      exact iteF ⟨_, rfl, q p H' hp s1 e1 (by omega)⟩
    rw [show decide ((k : Int) < ((mkS x).length : Int)) = true from decide_eq_true (by omega)]
    have ne : x.drop k ≠ [] := fun e => by have := congrArg List.length e; rw [List.length_drop] at this; simp at this; omega
    obtain ⟨t0, t1, hor⟩ := toks_step hT2 ne
    have hdl : (x.drop k).length = x.length - k := List.length_drop ..
    have dd : (x.drop k).drop (tlen (x.drop k)) = x.drop (k + tlen (x.drop k)) := List.drop_drop ..
    obtain ⟨c, hc⟩ : ∃ c, x[k]? = some c := ⟨_, List.getElem?_eq_getElem hkl⟩
    have hc0 : (x.drop k)[0]? = some c := by rw [at_drop]; exact hc
    refine iteT ⟨fun σ' H2 => ∃ (T3 T4 : List (List Nat)) (y : Option V), σ' = [some (SV x), some (.ref p), some (.int ((k + tlen (x.drop k) : Nat) : Int)), y] ∧ Toks (x.drop (k + tlen (x.drop k))) T4 ∧ T1 ++ T2 = T3 ++ T4 ∧ T3.length ≤ k + tlen (x.drop k) ∧ Same H H2 ∧ H2 p = some (.lst (T3.map SV)),
      fun σ' H2 ⟨T3, T4, y, r1, r2, r3, r4, r5, r6⟩ => ⟨x.length - (k + tlen (x.drop k)), by omega, _, T3, T4, y, r1, by omega, r2, r3, r4, r5, r6, rfl⟩, ?_⟩
    refine ⟨_, rfl, _, rfl, x, k, rfl, hkl, by omega, ?_⟩
    refine ⟨_, rfl, _, rfl, mkS x, (k : Int), c, rfl, rfl, small7 (by omega), atI_nat (by show (cs (mkS x))[k]? = _; rw [cs_mk]; exact hc), rfl, _, rfl, ?_⟩
    rcases hor with ⟨h32, hT3⟩ | ⟨h32, T3, rfl, hT3⟩
    · rw [hc0] at h32
      cases h32
      rw [show (!decide (V.str ⟨#[32]⟩ = V.str " ")) = false by decide]
      rw [dd] at hT3
      exact iteF ⟨_, rfl, T1, T2, _, rfl, hT3, rfl, by omega, s1, e1⟩
    · have nc : c ≠ 32 := fun e => h32 (by rw [hc0, e])
      rw [show (!decide (V.str ⟨#[c]⟩ = V.str " ")) = true by
        have : ¬ (V.str ⟨#[c]⟩ = V.str " ") := fun e => by
          have e3 : [c] = [32] := congrArg cs (V.str.inj e)
          exact nc (by simpa using e3)
        simpa using this]
      rw [dd] at hT3
      refine iteT ⟨_, rfl, .inl ⟨rfl, _, SqL.of e1⟩, _, rfl, _, rfl, _, rfl, _, rfl, _, rfl, mkS x, rfl, small7 (by omega), ?_⟩
      rw [cut_mid (by omega) (by omega), show k + tlen (x.drop k) - k = tlen (x.drop k) by omega]
      refine ⟨p, _, _, rfl, rfl, e1, ?_, _, rfl, T1 ++ [(x.drop k).take (tlen (x.drop k))], T3, _, rfl, hT3, by simp, ?_, Kx.Same.own s1 hp _, ?_⟩
      · rw [List.length_map]; exact small7k (by omega)
      · rw [List.length_append, List.length_singleton]; omega
      · rw [upd_same, List.map_append]; rfl
end
end Kx
namespace Kx
open PySem PySem.Spec PyProof.Rows L2
section
variable {P : Program} {w : World} {K : PySem.W.Frag} {mg : Str → Option Value} {base : Heap}
set_option pp.maxSteps 1200
/-! ### numbers, parentheses -/
def spNumber : Sp := fun vs H Q _ => ∃ n : Nat, vs = [SV (num n)] ∧ n < 100 ∧ Q (.bl true) H
theorem num_facts : ∀ n : Nat, n < 100 → Txt.isdigit (mkS (num n)) = true ∧ (mkS (num n)).length ≤ 2 ∧ 1 ≤ (num n).length ∧ (mkS (num n) = "0" ∨ (num n).head? ≠ some 48) ∧ PySem.intText? (mkS (num n)) = some (n : Int) := by decide +kernel
theorem ok_is_number (T : Txt K mg)  : FnOk P w K mg base CX0 1 T.a_is_number T.d_is_number ["token"] spNumber := by
  refine T.F_is_number.ok sc_is_number (fun vs H Q E h => ?_) (fun cdv A outer s H vs Q E hr h => ?_)
  · obtain ⟨n, rfl, _⟩ := h; rfl
  · obtain ⟨n, rfl, hn, q⟩ := h
    refine ⟨_, (pss_cons (ps_if (PW.pt (pw_or (pt_not (pt_val (pe_m0 PySem.F.slot_str_isdigit PySem.F.type_str_isdigit mt_isdigit (pv 0)))) (pw_or1 (pt_cmpR op_gt (pe_callB call_len_str (by rfl) T.z_len (by decide +kernel) (pa_cons (pv 0) pa_nil)) (pe_glob (by rfl) T.g_MOST_DIGITS (show RelV (V.int 2) (.int 2 T.t_MOST_DIGITS) from ⟨_, rfl⟩)) (nomark _))))) (pss_one (ps_ret pe_bl)) pss_nil)
    (pss_one (ps_ret (pe_or (pe_cmpR op_eq (pv 0) pe_str (nomark _)) (pe_one (pe_cmpR op_ne (pe_ix ix_str (pv 0) pe_int (fun _ _ => rfl)) pe_str (nomark _))))))), ?_⟩
    obtain ⟨f1, f2, f3, f4, _⟩ := num_facts n hn
    refine ⟨_, rfl, ⟨_, rfl⟩, mkS (num n), rfl, rfl, trivial, _, rfl, ?_⟩
    rw [f1]
    refine iteF ⟨_, rfl, _, rfl, small7 (by omega), _, _, rfl, rfl, _, rfl, ?_⟩
    rw [show decide ((2 : Int) < ((mkS (num n)).length : Int)) = false from decide_eq_false (by omega)]
    refine iteF ⟨_, rfl, rfl, _, rfl, ?_⟩
    by_cases h0 : mkS (num n) = "0"
    · rw [show decide (SV (num n) = V.str "0") = true from decide_eq_true (by unfold SV; rw [h0])]
      exact iteT q
    · rw [show decide (SV (num n) = V.str "0") = false from decide_eq_false (fun e => h0 (V.str.inj e))]
      obtain ⟨c, r, hc⟩ : ∃ c r, num n = c :: r := by cases e : num n with | nil => rw [e] at f3; simp at f3 | cons c r => exact ⟨c, r, rfl⟩
      have nc : c ≠ 48 := fun e => by
        rcases f4 with f4 | f4
        · exact h0 f4
        · rw [hc, e] at f4; exact f4 rfl
      refine iteF ⟨_, rfl, mkS (num n), 0, c, rfl, rfl, small7 (by omega), atI_nat (j := 0) (by show (cs (mkS (num n)))[0]? = _; rw [cs_mk, hc]; rfl), rfl, ?_⟩
      have : (!decide (V.str ⟨#[c]⟩ = V.str "0")) = true := by
        have : ¬ (V.str ⟨#[c]⟩ = V.str "0") := fun e => by
          have e3 : [c] = [48] := congrArg cs (V.str.inj e)
          exact nc (by simpa using e3)
        simpa using this
      rw [this]; exact q
theorem sv_eq (a b : List Nat) : decide (SV a = SV b) = decide (a = b) := by
  apply decide_eq_decide.mpr
  constructor
  · intro h
    have := congrArg cs (V.str.inj h)
    rwa [cs_mk, cs_mk] at this
  · intro h; rw [h]
theorem sv_lit (a : List Nat) (z : Str) : decide (SV a = V.str z) = decide (a = cs z) := by
  have := sv_eq a (cs z)
  rw [show SV (cs z) = V.str z by unfold SV; rw [mk_cs]] at this
  exact this
def spMost : Sp := fun vs H Q _ => ∃ (p : Addr) (U : List (List Nat)), vs = [.ref p] ∧ H p = some (.lst (U.map SV)) ∧ opn U ≤ 40 ∧ ∀ m : Int, m ≤ 40 → Q (.int m) H
theorem ok_most_open (T : Txt K mg)  : FnOk P w K mg base CX0 1 T.a_most_open T.d_most_open ["tokens"] spMost := by
  refine T.F_most_open.ok sc_most_open (fun vs H Q E h => ?_) (fun cdv A outer s H vs Q E hr h => ?_)
  · obtain ⟨p, U, rfl, _⟩ := h; rfl
  · obtain ⟨p, U, rfl, e, ho, q⟩ := h
    refine ⟨_, (pss_cons (ps_set (i := 1) sc_most_open.nd rfl (Or.inl rfl) pe_int)
    (pss_cons (ps_set (i := 2) sc_most_open.nd rfl (Or.inl rfl) pe_int)
    (pss_cons (ps_for PassesOwn.never rfl (pi_list (pv 0)) (pg_name (i := 3) sc_most_open.nd rfl (Or.inl rfl))
    (pss_cons (ps_if (pt_cmpR op_eq (pv 3) pe_str (nomark _)) (pss_one (ps_aug (i := 1) sc_most_open.nd rfl (Or.inl rfl) pe_int ip_add)) (pss_one (ps_if (pt_cmpR op_eq (pv 3) pe_str (nomark _)) (pss_one (ps_aug (i := 1) sc_most_open.nd rfl (Or.inl rfl) pe_int ip_sub)) pss_nil)))
    (pss_one (ps_set (i := 2) sc_most_open.nd rfl (Or.inl rfl) (pe_callB (call_max2 rfl) (by rfl) T.z_max (by decide +kernel) (pa_cons (pv 2) (pa_cons (pv 1) pa_nil)))))))
    (pss_one (ps_ret (pv 2)))))), ?_⟩
    refine ⟨_, rfl, p, rfl, ⟨_, SqL.of e⟩, ?_⟩
    refine for_list (K := K) (a := p) (xs := U.map SV) (fun i σ H' => ∃ (c m : Int) (y : Option V), σ = [some (.ref p), some (.int c), some (.int m), y] ∧ H' = H ∧ c ≤ (opn (U.take i) : Int) ∧ m ≤ (opn (U.take i) : Int)) ?_ ?_ ?_ ?_
    · exact ⟨0, 0, _, rfl, rfl, by simp [opn], by simp [opn]⟩
    · exact fun i σ H' _ ⟨_, _, _, _, e2, _⟩ => by rw [e2]; exact SqL.of e
    · rintro i x σ H' hx ⟨c, m, y, rfl, rfl, hc, hm⟩
      obtain ⟨t, ht, rfl⟩ := map_at hx
      have tk : U.take (i + 1) = U.take i ++ [t] := by rw [List.take_add_one, ht]; rfl
      have o1 : opn (U.take (i + 1)) = opn (U.take i) + opn [t] := by rw [tk, opn_app]
      have fin : ∀ c' : Int, c' ≤ (opn (U.take (i + 1)) : Int) → (if c' > m then c' else m) ≤ (opn (U.take (i + 1)) : Int) := fun c' h => by
        split
        · exact h
        · omega
      refine ⟨_, rfl, rfl, _, rfl, ?_⟩
      rw [sv_lit]
      by_cases h1 : t = cs "("
      · rw [decide_eq_true h1]
        have : opn [t] = 1 := by rw [h1]; decide
        refine iteT ⟨_, rfl, _, _, rfl, rfl, _, rfl, _, rfl, _, _, rfl, ?_⟩
        exact ⟨_, _, _, rfl, rfl, by show c + 1 ≤ _; omega, fin _ (by show c + 1 ≤ _; omega)⟩
      · rw [decide_eq_false h1]
        refine iteF ⟨_, rfl, rfl, _, rfl, ?_⟩
        rw [sv_lit]
        by_cases h2 : t = cs ")"
        · rw [decide_eq_true h2]
          refine iteT ⟨_, rfl, _, _, rfl, rfl, _, rfl, _, rfl, _, _, rfl, ?_⟩
          exact ⟨_, _, _, rfl, rfl, by show c - 1 ≤ _; omega, fin _ (by show c - 1 ≤ _; omega)⟩
        · rw [decide_eq_false h2]
          refine iteF ⟨_, rfl, _, rfl, _, _, rfl, ?_⟩
          exact ⟨_, _, _, rfl, rfl, by omega, fin _ (by omega)⟩
    · rintro σ H' ⟨c, m, y, rfl, rfl, hc, hm⟩
      rw [List.length_map, List.take_length] at hm
      exact ⟨_, rfl, q m (by omega)⟩
/-! ### a line -/
def lnD (n : Int) (i : Nat) (l : Addr) : List (Str × V) := [("number", .int n), ("at", .int i), ("tokens", .ref l)]
structure LnAt (C o dx l : Addr) (n : Int) (i : Nat) (U : List (List Nat)) (H : Hp) : Prop where
  ins : H o = some (.ins C dx (lnD n i l))
  lst : H l = some (.lst (U.map SV))
  len : U.length ≤ 6000
  ok : ∀ t ∈ U, Ok t
/-- all but the line stands -/
def Lx (o : Addr) (H H' : Hp) : Prop := ∀ b u, b ≠ o → H b = some u → H' b = some u
theorem Lx.refl (o : Addr) (H : Hp) : Lx o H H := fun _ _ _ h => h
theorem Lx.trans {o : Addr} {H H1 H2 : Hp} (a : Lx o H H1) (b : Lx o H1 H2) : Lx o H H2 := fun c u n h => b c u n (a c u n h)
theorem Lx.of {o : Addr} {H H' : Hp} (s : Same H H') : Lx o H H' := fun b u _ h => s b u h
theorem Lx.own {o p : Addr} {H H1 : Hp} (x : Lx o H H1) (hp : H p = none) (u : HO) : Lx o H (upd H1 p u) := fun b v n h => by rw [upd_ne (ne_of_none h hp)]; exact x b v n h
section
variable {C o dx l : Addr} {n : Int} {i : Nat} {U : List (List Nat)} {H H' : Hp}
theorem LnAt.ne (L : LnAt C o dx l n i U H) : l ≠ o := fun e => by have := L.lst; rw [e, L.ins] at this; cases this
theorem LnAt.same (L : LnAt C o dx l n i U H) (s : Same H H') : LnAt C o dx l n i U H' := ⟨s _ _ L.ins, s _ _ L.lst, L.len, L.ok⟩
theorem LnAt.tk (L : LnAt C o dx l n i U H) (x : Lx o H H') : Tk H H' := fun a vs h => x a _ (fun q => by rw [q, L.ins] at h; cases h) h
theorem LnAt.put (L : LnAt C o dx l n i U H) (j : Nat) : LnAt C o dx l n j U (upd H o (.ins C dx (lnD n j l))) ∧ Lx o H (upd H o (.ins C dx (lnD n j l))) :=
  ⟨⟨upd_same, by rw [upd_ne L.ne]; exact L.lst, L.len, L.ok⟩, fun b u nb h => by rw [upd_ne nb]; exact h⟩
end
theorem get_drop {U R : List (List Nat)} {i : Nat} {t : List Nat} (h : U.drop i = t :: R) : U[i]? = some t ∧ U.drop (i + 1) = R ∧ i < U.length := by
  have h0 : (U.drop i)[0]? = some t := by rw [h]; rfl
  rw [List.getElem?_drop] at h0
  refine ⟨h0, ?_, (List.getElem?_eq_some_iff.mp h0).1⟩
  rw [← List.drop_drop, h]; rfl
theorem drop_app {U X R : List (List Nat)} {i : Nat} (h : U.drop i = X ++ R) : U.drop (i + X.length) = R := by
  rw [← List.drop_drop, h, List.drop_left]
def spTake (C : Addr) : Sp := fun vs H Q _ => ∃ (o dx l : Addr) (n : Int) (i : Nat) (U : List (List Nat)) (t : List Nat), vs = [.ref o] ∧ LnAt C o dx l n i U H ∧ U[i]? = some t ∧ ∀ H', Lx o H H' → LnAt C o dx l n (i + 1) U H' → Q (SV t) H'
theorem ok_Line_take (T : Txt K mg)  : FnOk P w K mg base CX0 1 T.a_Line_take T.d_Line_take ["self"] (spTake T.c_Line) := by
  refine T.F_Line_take.ok sc_Line_take (fun vs H Q E h => ?_) (fun cdv A outer s H vs Q E hr h => ?_)
  · obtain ⟨o, dx, l, n, i, U, t, rfl, _⟩ := h; rfl
  · obtain ⟨o, dx, l, n, i, U, t, rfl, L, ht, q⟩ := h
    refine ⟨_, (pss_cons (ps_if (pt_cmpR op_eq (pe_fld (pv 0) rfl) (pe_callB call_len_seq (by rfl) T.z_len (by decide +kernel) (pa_cons (pe_fld (pv 0) rfl) pa_nil)) (nomark _)) (pss_one ps_never) pss_nil)
    (pss_cons (ps_fldaug (pv 0) pe_int in_add)
    (pss_one (ps_ret (pe_ix ix_list (pe_fld (pv 0) rfl) (pe_op op_sub (pe_fld (pv 0) rfl) pe_int) (fun _ _ => rfl)))))), ?_⟩
    have hi := (List.getElem?_eq_some_iff.mp ht).1
    refine ⟨_, rfl, o, _, dx, _, _, rfl, L.ins, T.cl_Line, T.no_Line_at, rfl, _, rfl, o, _, dx, _, _, rfl, L.ins, T.cl_Line, T.no_Line_tokens, rfl, l, _, rfl, .inl (SqL.of L.lst), rfl, _, rfl, ?_⟩
    rw [List.length_map, show decide (V.int (i : Int) = V.int (U.length : Int)) = false by rw [dec_int]; exact beq_eq_false_iff_ne.mpr (by omega)]
    obtain ⟨L1, x1⟩ := L.put (i + 1)
    refine iteF ⟨_, rfl, o, _, dx, _, _, rfl, L.ins, T.cl_Line, T.no_Line_at, rfl, _, _, rfl, rfl, dx, _, L.ins, by show 3 < 1000; decide, ?_⟩
    rw [show putF "at" ((fun i j => V.int (i + j)) (i : Int) 1) (lnD n i l) = lnD n (i + 1) l from rfl]
    refine ⟨_, rfl, o, _, dx, _, _, rfl, L1.ins, T.cl_Line, T.no_Line_tokens, rfl, _, rfl, o, _, dx, _, _, rfl, L1.ins, T.cl_Line, T.no_Line_at, rfl, _, _, rfl, rfl, l, _, _, _, rfl, rfl, SqL.of L1.lst, ?_, q _ x1 L1⟩
    show atI (U.map SV) (((i + 1 : Nat) : Int) - 1) = _
    rw [show (((i + 1 : Nat) : Int) - 1) = (i : Int) by omega]
    exact atI_nat (by rw [List.getElem?_map, ht]; rfl)
def spComes (C : Addr) : Sp := fun vs H Q _ => ∃ (o dx l : Addr) (n : Int) (i : Nat) (U : List (List Nat)) (z : Str), vs = [.ref o, .str z] ∧ LnAt C o dx l n i U H ∧ i ≤ U.length ∧ sok z = true ∧ ∀ H', Same H H' → Q (.bl (decide (U[i]? = some (cs z)))) H'
theorem sok_ok {t : List Nat} (h : Ok t) : sok (mkS t) = true := by
  show (mkS t).cps.all (· < 0x110000) = true
  rw [Array.all_eq_true']
  intro c hc
  have := h c (by simpa [mkS] using hc)
  simp only [decide_eq_true_eq]
  have := this.2.1
  omega
theorem one_shaped {w : Str} (h : sok w = true) : SeqAt.shaped (.list [.str w]) = true := by
  simp only [SeqAt.shaped, PyData.canLay0, PyData.canLayAll0, PyData.depth, PyData.depthAll, show PyData.strOk w = true from h]
  rfl
theorem cut_one {U : List (List Nat)} {i : Nat} (h : i ≤ U.length) : cutV (U.map SV) (some (i : Int)) (some ((i : Int) + 1)) = (match U[i]? with | some t => [SV t] | none => []) := by
  unfold cutV
  rw [show ((i : Int) + 1) = ((i + 1 : Nat) : Int) by omega, HT.sIx_nat, HT.sIx_nat, List.length_map, Nat.min_eq_left h]
  cases e : U[i]? with
  | none =>
    have : U.length ≤ i := List.getElem?_eq_none_iff.mp e
    rw [List.drop_eq_nil_of_le (by rw [List.length_map]; exact this)]
    exact List.take_nil
  | some t =>
    have hi := (List.getElem?_eq_some_iff.mp e).1
    rw [Nat.min_eq_left hi, show i + 1 - i = 1 by omega]
    have : (U.map SV).drop i = SV t :: (U.map SV).drop (i + 1) := by
      have h2 : (U.map SV)[i]? = some (SV t) := by rw [List.getElem?_map, e]; rfl
      rw [List.drop_eq_getElem_cons (by rw [List.length_map]; exact hi)]
      congr 1
      have := List.getElem?_eq_getElem (l := U.map SV) (i := i) (by rw [List.length_map]; exact hi)
      rw [h2] at this
      exact (Option.some.inj this).symm
    rw [this]; rfl
theorem ok_Line_comes (T : Txt K mg)  : FnOk P w K mg base CX0 1 T.a_Line_comes T.d_Line_comes ["self", "token"] (spComes T.c_Line) := by
  refine T.F_Line_comes.ok sc_Line_comes (fun vs H Q E h => ?_) (fun cdv A outer s H vs Q E hr h => ?_)
  · obtain ⟨o, dx, l, n, i, U, z, rfl, _⟩ := h; rfl
  · obtain ⟨o, dx, l, n, i, U, z, rfl, L, hi, hz, q⟩ := h
    refine ⟨_, (pss_one (ps_ret (pe_cmpR (op_eqD (u64 hr)) (pe_slice sl_list (pe_fld (pv 0) rfl) (po_some (pe_fld (pv 0) rfl)) (po_some (pe_op op_add (pe_fld (pv 0) rfl) pe_int))) (pe_lst (pa_cons (pv 1) pa_nil)) (nomark _)))), ?_⟩
    refine ⟨_, rfl, o, _, dx, _, _, rfl, L.ins, T.cl_Line, T.no_Line_tokens, rfl, _, rfl, o, _, dx, _, _, rfl, L.ins, T.cl_Line, T.no_Line_at, rfl, _, rfl, _, rfl, o, _, dx, _, _, rfl, L.ins, T.cl_Line, T.no_Line_at, rfl, _, _, rfl, rfl, _, rfl, l, _, rfl, SqL.of L.lst, fun p hp => ?_⟩
    have s1 := same_upd hp (.lst (cutV (U.map SV) (some (i : Int)) (some ((i : Int) + 1))))
    refine ⟨_, rfl, (by show 1 ≤ sizeLine; decide), fun p2 hp2 => ?_⟩
    have s2 := same_upd hp2 (.lst [V.str z])
    have e1 := s2 _ _ (show upd H p (.lst (cutV (U.map SV) (some (i : Int)) (some ((i : Int) + 1)))) p = some (.lst (match U[i]? with | some t => [SV t] | none => [])) by rw [upd_same, cut_one hi])
    have dz : Dp K (upd (upd H p (.lst (cutV (U.map SV) (some (i : Int)) (some ((i : Int) + 1))))) p2 (.lst [V.str z])) (.ref p2) (.list [.str z]) := .lst (SqL.of upd_same) (.cons (.str z) .nil)
    generalize upd (upd H p (.lst (cutV (U.map SV) (some (i : Int)) (some ((i : Int) + 1))))) p2 (.lst [V.str z]) = H2 at *
    have fin := q H2 (s1.trans s2)
    cases e : U[i]? with
    | none =>
      rw [e] at e1 fin
      refine ⟨.list [], .list [.str z], .lst (SqL.of e1) .nil, dz, rfl, one_shaped hz, ?_⟩
      simpa [PyData.eqv, PyData.eqvAll] using fin
    | some t =>
      rw [e] at e1 fin
      refine ⟨.list [.str (mkS t)], .list [.str z], .lst (SqL.of e1) (.cons (.str _) .nil), dz, one_shaped (sok_ok (L.ok t (List.mem_of_getElem? e))), one_shaped hz, ?_⟩
      have : (PyData.list [.str (mkS t)]).eqv (.list [.str z]) = decide (some t = some (cs z)) := by
        rw [Bool.eq_iff_iff]
        simp only [PyData.eqv, PyData.eqvAll, Bool.and_true, beq_iff_eq, decide_eq_true_eq, Option.some.injEq]
        constructor
        · intro h; rw [← h, cs_mk]
        · intro h; rw [h, mk_cs]
      rw [this]; exact fin
def spSkip (C : Addr) : Sp := fun vs H Q _ => ∃ (o dx l : Addr) (n : Int) (i : Nat) (U : List (List Nat)) (z : Str), vs = [.ref o, .str z] ∧ LnAt C o dx l n i U H ∧ U[i]? = some (cs z) ∧ ∀ H', Lx o H H' → LnAt C o dx l n (i + 1) U H' → Q .non H'
theorem ok_Line_skip (T : Txt K mg) (G_Line_take : FnOk P w K mg base CX0 1 T.a_Line_take T.d_Line_take ["self"] (spTake T.c_Line)) : FnOk P w K mg base CX0 2 T.a_Line_skip T.d_Line_skip ["self", "token"] (spSkip T.c_Line) := by
  refine T.F_Line_skip.ok sc_Line_skip (fun vs H Q E h => ?_) (fun cdv A outer s H vs Q E hr h => ?_)
  · obtain ⟨o, dx, l, n, i, U, z, rfl, _⟩ := h; rfl
  · obtain ⟨o, dx, l, n, i, U, z, rfl, L, hi, q⟩ := h
    have hr_Line_take := hr
    refine ⟨_, (pss_one (ps_if (pt_cmpR op_ne (pe_meth0 (pv 0) T.cl_Line T.me_Line_take G_Line_take hr_Line_take T.b_Line_take .nil pass0) (pv 1) (nomark _)) (pss_one ps_never) pss_nil)), ?_⟩
    refine ⟨_, rfl, o, dx, _, rfl, L.ins, rfl, o, dx, l, n, i, U, cs z, rfl, L, hi, fun H1 x1 L1 => ⟨_, rfl, rfl, _, rfl, ?_⟩⟩
    rw [sv_lit, decide_eq_true rfl]
    exact iteF (q H1 x1 L1)
def spFinish (C : Addr) : Sp := fun vs H Q _ => ∃ (o dx l : Addr) (n : Int) (U : List (List Nat)), vs = [.ref o] ∧ LnAt C o dx l n U.length U H ∧ Q .non H
theorem ok_Line_finish (T : Txt K mg)  : FnOk P w K mg base CX0 1 T.a_Line_finish T.d_Line_finish ["self"] (spFinish T.c_Line) := by
  refine T.F_Line_finish.ok sc_Line_finish (fun vs H Q E h => ?_) (fun cdv A outer s H vs Q E hr h => ?_)
  · obtain ⟨o, dx, l, n, U, rfl, _⟩ := h; rfl
  · obtain ⟨o, dx, l, n, U, rfl, L, q⟩ := h
    refine ⟨_, (pss_one (ps_if (pt_cmpR op_ne (pe_fld (pv 0) rfl) (pe_callB call_len_seq (by rfl) T.z_len (by decide +kernel) (pa_cons (pe_fld (pv 0) rfl) pa_nil)) (nomark _)) (pss_one ps_never) pss_nil)), ?_⟩
    refine ⟨_, rfl, o, _, dx, _, _, rfl, L.ins, T.cl_Line, T.no_Line_at, rfl, _, rfl, o, _, dx, _, _, rfl, L.ins, T.cl_Line, T.no_Line_tokens, rfl, l, _, rfl, .inl (SqL.of L.lst), rfl, _, rfl, ?_⟩
    rw [List.length_map, show (!decide (V.int (U.length : Int) = V.int (U.length : Int))) = false by simp]
    exact iteF q
def spTakeWord (C : Addr) : Sp := fun vs H Q _ => ∃ (o dx l : Addr) (n : Int) (i : Nat) (U : List (List Nat)) (z : Str), vs = [.ref o] ∧ LnAt C o dx l n i U H ∧ U[i]? = some (cs z) ∧ WkB z ∧ ∀ H', Lx o H H' → LnAt C o dx l n (i + 1) U H' → Q (.str z) H'
theorem ok_Line_take_word (T : Txt K mg) (G_is_word : FnOk P w K mg base CX0 1 T.a_is_word T.d_is_word ["value"] spWord) (G_Line_take : FnOk P w K mg base CX0 1 T.a_Line_take T.d_Line_take ["self"] (spTake T.c_Line)) : FnOk P w K mg base CX0 2 T.a_Line_take_word T.d_Line_take_word ["self"] (spTakeWord T.c_Line) := by
  refine T.F_Line_take_word.ok sc_Line_take_word (fun vs H Q E h => ?_) (fun cdv A outer s H vs Q E hr h => ?_)
  · obtain ⟨o, dx, l, n, i, U, z, rfl, _⟩ := h; rfl
  · obtain ⟨o, dx, l, n, i, U, z, rfl, L, hi, hz, q⟩ := h
    have hr_Line_take := hr
    have hr_is_word := hr
    refine ⟨_, (pss_cons (ps_set (i := 1) sc_Line_take_word.nd rfl (Or.inl rfl) (pe_meth0 (pv 0) T.cl_Line T.me_Line_take G_Line_take hr_Line_take T.b_Line_take .nil pass0))
    (pss_cons (ps_if (pt_not (pt_val (pe_call G_is_word hr_is_word rfl T.m_is_word T.F_is_word.kp T.b_is_word .nil pass0 (pa_cons (pv 1) pa_nil)))) (pss_one ps_never) pss_nil)
    (pss_one (ps_ret (pv 1))))), ?_⟩
    refine ⟨_, rfl, o, dx, _, rfl, L.ins, rfl, o, dx, l, n, i, U, cs z, rfl, L, hi, fun H1 x1 L1 => ?_⟩
    rw [show SV (cs z) = V.str z by unfold SV; rw [mk_cs]]
    exact ⟨_, rfl, z, rfl, hz, _, rfl, iteF ⟨_, rfl, q H1 x1 L1⟩⟩
def spTakeNum (C : Addr) : Sp := fun vs H Q _ => ∃ (o dx l : Addr) (n : Int) (i : Nat) (U : List (List Nat)) (k : Nat), vs = [.ref o] ∧ LnAt C o dx l n i U H ∧ U[i]? = some (num k) ∧ k < 100 ∧ ∀ H', Lx o H H' → LnAt C o dx l n (i + 1) U H' → Q (.int k) H'
theorem ok_Line_take_number (T : Txt K mg) (G_is_number : FnOk P w K mg base CX0 1 T.a_is_number T.d_is_number ["token"] spNumber) (G_Line_take : FnOk P w K mg base CX0 1 T.a_Line_take T.d_Line_take ["self"] (spTake T.c_Line)) : FnOk P w K mg base CX0 2 T.a_Line_take_number T.d_Line_take_number ["self"] (spTakeNum T.c_Line) := by
  refine T.F_Line_take_number.ok sc_Line_take_number (fun vs H Q E h => ?_) (fun cdv A outer s H vs Q E hr h => ?_)
  · obtain ⟨o, dx, l, n, i, U, k, rfl, _⟩ := h; rfl
  · obtain ⟨o, dx, l, n, i, U, k, rfl, L, hi, hk, q⟩ := h
    have hr_Line_take := hr
    have hr_is_number := hr
    refine ⟨_, (pss_cons (ps_set (i := 1) sc_Line_take_number.nd rfl (Or.inl rfl) (pe_meth0 (pv 0) T.cl_Line T.me_Line_take G_Line_take hr_Line_take T.b_Line_take .nil pass0))
    (pss_cons (ps_if (pt_not (pt_val (pe_call G_is_number hr_is_number rfl T.m_is_number T.F_is_number.kp T.b_is_number .nil pass0 (pa_cons (pv 1) pa_nil)))) (pss_one ps_never) pss_nil)
    (pss_one (ps_ret (pe_callTy call_int_str (by rfl) T.z_int (by decide +kernel) (pa_cons (pv 1) pa_nil)))))), ?_⟩
    obtain ⟨_, f2, _, _, f5⟩ := num_facts k hk
    refine ⟨_, rfl, o, dx, _, rfl, L.ins, rfl, o, dx, l, n, i, U, num k, rfl, L, hi, fun H1 x1 L1 => ?_⟩
    exact ⟨_, rfl, k, rfl, hk, _, rfl, iteF ⟨_, rfl, mkS (num k), _, rfl, f5, by omega, q H1 x1 L1⟩⟩
end
end Kx
namespace Kx
open PySem PySem.Spec PyProof.Rows L2
section
variable {P : Program} {w : World} {K : PySem.W.Frag} {mg : Str → Option Value} {base : Heap}
set_option pp.maxSteps 1200
theorem pre35 {x r : List Nat} (h : 35 ∉ x) {k : Nat} (hk : k < x.length) : TL.pre [35] ((x ++ r).drop k) = false := by
  unfold TL.pre
  rw [List.drop_append_of_le_length (Nat.le_of_lt hk)]
  cases e : x.drop k with
  | nil => have := congrArg List.length e; rw [List.length_drop] at this; simp at this; omega
  | cons a q =>
    have ha : a ∈ x := List.mem_of_mem_drop (by rw [e]; exact List.mem_cons_self ..)
    have : a ≠ 35 := fun q => h (q ▸ ha)
    show ([a] == [35]) = false
    simpa using this
/-- what stands behind the signs of a line: nothing, or a comment -/
def Cm (cm : List Nat) : Prop := OkR cm ∧ (cm = [] ∨ ∃ r, cm = 35 :: r)
theorem part_cm {x cm : List Nat} (h : 35 ∉ x) (hc : Cm cm) : (Txt.partition (mkS (x ++ cm)) "#").1 = mkS x := by
  have run := TL.par_run [35] (x ++ cm) x.length 0 [] (by rw [List.length_append]; omega) fun k _ hk => by
    rw [Nat.zero_add] at hk
    exact pre35 h hk
  rw [List.drop_zero, Nat.zero_add, List.drop_left, List.take_left, List.nil_append] at run
  rcases hc.2 with rfl | ⟨r, rfl⟩
  · have e : TL.par [35] [] (x ++ []) = none := by rw [run]; rfl
    rw [TL.partition_par _ _ (by decide +kernel), show TL.tl ("#" : Str) = [35] from rfl, show TL.tl (mkS (x ++ [])) = x ++ [] from cs_mk _, e, List.append_nil]
  · have e : TL.par [35] [] (x ++ 35 :: r) = some (x, r) := by rw [run]; rfl
    rw [TL.partition_par _ _ (by decide +kernel), show TL.tl ("#" : Str) = [35] from rfl, show TL.tl (mkS (x ++ 35 :: r)) = x ++ 35 :: r from cs_mk _, e]
    all_goals rfl
def spLInit (C : Addr) : Sp := fun vs H Q _ => ∃ (o dx : Addr) (n : Int) (x cm : List Nat) (U : List (List Nat)), vs = [.ref o, SV (x ++ cm), .int n] ∧ H o = some (.ins C dx []) ∧ Toks x U ∧ Ok x ∧ Cm cm ∧ (x ++ cm).length ≤ 6000 ∧ opn U ≤ 40 ∧ ∀ l H', H l = none → Lx o H H' → LnAt C o dx l n 0 U H' → Q .non H'
theorem toks_ok {x : List Nat} {U : List (List Nat)} (h : Toks x U) : Ok x → ∀ t ∈ U, Ok t := by
  induction h with
  | nil => intro _ t ht; cases ht
  | sp h ih => intro o; exact ih fun c hc => o c (List.mem_cons_of_mem _ hc)
  | word n a e h ih =>
    intro o t ht
    rcases List.mem_cons.mp ht with rfl | ht
    · exact fun c hc => o c (List.mem_append_left _ hc)
    · exact ih (fun c hc => o c (List.mem_append_right _ hc)) t ht
  | arrow h ih =>
    intro o t ht
    rcases List.mem_cons.mp ht with rfl | ht
    · exact fun c hc => by simp only [List.mem_cons, List.not_mem_nil, or_false] at hc; rcases hc with rfl | rfl <;> decide
    · exact ih (fun c hc => o c (List.mem_cons_of_mem _ (List.mem_cons_of_mem _ hc))) t ht
  | sign a n m h ih =>
    intro o t ht
    rcases List.mem_cons.mp ht with rfl | ht
    · exact fun c hc => by rw [List.mem_singleton.mp hc]; exact o _ (List.mem_cons_self ..)
    · exact ih (fun c hc => o c (List.mem_cons_of_mem _ hc)) t ht
theorem ok_Line_init (T : Txt K mg) (G_most_open : FnOk P w K mg base CX0 1 T.a_most_open T.d_most_open ["tokens"] spMost) (G_tokens_of : FnOk P w K mg base CX0 2 T.a_tokens_of T.d_tokens_of ["row"] spTokens) : FnOk P w K mg base CX0 3 T.a_Line_init T.d_Line_init ["self", "row", "number"] (spLInit T.c_Line) := by
  refine T.F_Line_init.ok sc_Line_init (fun vs H Q E h => ?_) (fun cdv A outer s H vs Q E hr h => ?_)
  · obtain ⟨o, dx, n, x, cm, U, rfl, _⟩ := h; rfl
  · obtain ⟨o, dx, n, x, cm, U, rfl, e, hT, hO, hC, hl, ho, q⟩ := h
    rw [List.length_append] at hl
    have hr_tokens_of : Room 2 _ := hr
    have hr_most_open : Room 1 _ := hr.mono (by decide)
    refine ⟨_, (pss_cons (ps_fld (pv 0) (pv 2) rfl)
    (pss_cons (ps_fld (pv 0) pe_int rfl)
    (pss_cons (ps_fld (pv 0) (pe_call G_tokens_of hr_tokens_of rfl T.m_tokens_of T.F_tokens_of.kp T.b_tokens_of .nil pass0 (pa_cons (pe_ix ix_tup (pe_partition (pv 1) pe_str) pe_int (fun _ _ => rfl)) pa_nil)) rfl)
    (pss_one (ps_if (pt_cmpR op_gt (pe_call G_most_open hr_most_open rfl T.m_most_open T.F_most_open.kp T.b_most_open .nil pass0 (pa_cons (pe_fld (pv 0) rfl) pa_nil)) (pe_glob (by rfl) T.g_MOST_OPEN (show RelV (V.int 40) (.int 40 T.t_MOST_OPEN) from ⟨_, rfl⟩)) (nomark _)) (pss_one ps_never) pss_nil))))), ?_⟩
    refine ⟨_, rfl, _, rfl, o, T.c_Line, dx, [], rfl, e, T.cl_Line, T.no_Line_number, by decide, ?_⟩
    refine ⟨_, rfl, o, T.c_Line, dx, _, rfl, upd_same, T.cl_Line, T.no_Line_at, by show 1 < 1000; decide, ?_⟩
    have x1 : Lx o H (upd (upd H o (.ins T.c_Line dx (putF "number" (.int n) []))) o (.ins T.c_Line dx (putF "at" (.int 0) (putF "number" (.int n) [])))) := fun b u nb h => by rw [upd_ne nb, upd_ne nb]; exact h
    have e1 : (upd (upd H o (.ins T.c_Line dx (putF "number" (.int n) []))) o (.ins T.c_Line dx (putF "at" (.int 0) (putF "number" (.int n) [])))) o = some (.ins T.c_Line dx [("number", .int n), ("at", .int 0)]) := upd_same
    generalize (upd (upd H o (.ins T.c_Line dx (putF "number" (.int n) []))) o (.ins T.c_Line dx (putF "at" (.int 0) (putF "number" (.int n) [])))) = H1 at x1 e1 ⊢
    have h35 : 35 ∉ x := fun hm => by have := (hO 35 hm).2.2.2; omega
    refine ⟨_, rfl, ⟨_, rfl⟩, mkS (x ++ cm), _, rfl, rfl, rfl, by rw [mk_len, List.length_append]; exact small7 (by omega), fun p hp => ⟨p, _, _, _, rfl, rfl, .inl (.inl upd_same), atI_nat (j := 0) rfl, x, U, by rw [part_cm h35 hC]; rfl, hT, by omega, fun l H2 nl s2 el lU => ?_⟩⟩
    have s1 := same_upd hp (.tup [.str (Txt.partition (mkS (x ++ cm)) "#").1, .str (Txt.partition (mkS (x ++ cm)) "#").2.1, .str (Txt.partition (mkS (x ++ cm)) "#").2.2])
    have e2 := s2 _ _ (s1 _ _ e1)
    have x2 : Lx o H H2 := (x1.trans (.of s1)).trans (.of s2)
    have nlo : l ≠ o := fun z => by rw [z, e2] at el; cases el
    refine ⟨_, rfl, o, T.c_Line, dx, _, rfl, e2, T.cl_Line, T.no_Line_tokens, by show 2 < 1000; decide, ?_⟩
    have L : LnAt T.c_Line o dx l n 0 U (upd H2 o (.ins T.c_Line dx (lnD n 0 l))) := ⟨upd_same, by rw [upd_ne nlo]; exact el, lU, toks_ok hT hO⟩
    rw [show putF "tokens" (.ref l) [("number", V.int n), ("at", V.int 0)] = lnD n 0 l from rfl]
    refine ⟨_, rfl, o, _, dx, _, _, rfl, L.ins, T.cl_Line, T.no_Line_tokens, rfl, l, U, rfl, L.lst, ho, fun m hm => ⟨_, _, rfl, rfl, _, rfl, ?_⟩⟩
    rw [show decide ((40 : Int) < m) = false from decide_eq_false (by omega)]
    have nl0 : H l = none := by
      cases e : H l with
      | none => rfl
      | some u => have := s1 _ _ (x1 _ _ nlo e); rw [nl] at this; cases this
    exact iteF (q l _ nl0 (x2.trans fun b u nb h => by rw [upd_ne nb]; exact h) L)
/-! ### trees -/
def TrW (n : Nat) (t : PV) : Prop := ∃ (L N B : List Str) (m : Nat), m < n ∧ Tr L N B m t ∧ (∀ z ∈ L, WkB z ∧ sok z = true) ∧ (∀ z ∈ N, WkB z ∧ sok z = true) ∧ ∀ z ∈ B, WkB z ∧ sok z = true
theorem TrW.up {n k : Nat} {t : PV} (h : TrW n t) (l : n ≤ k) : TrW k t := by
  obtain ⟨L, N, B, m, a, b⟩ := h
  exact ⟨L, N, B, m, by omega, b⟩
theorem TrW.cases {n : Nat} {t : PV} (h : TrW (n + 1) t) : ∃ z, WkB z ∧ sok z = true ∧ (t = .str z ∨ t = .tup [.str z] ∨ ∃ r, t = .tup (.str z :: r) ∧ r ≠ [] ∧ r.length ≤ 3 ∧ ∀ t ∈ r, TrW n t) := by
  obtain ⟨L, N, B, m, mn, h, hL, hN, hB⟩ := h
  rcases h.cases with ⟨z, rfl, hz⟩ | ⟨w, rfl, hw⟩ | ⟨w, r, k, rfl, e, hr, hw, hl, ht⟩
  · exact ⟨z, (hN z hz).1, (hN z hz).2, .inl rfl⟩
  · exact ⟨w, (hL w hw).1, (hL w hw).2, .inr (.inl rfl)⟩
  · exact ⟨w, (hB w hw).1, (hB w hw).2, .inr (.inr ⟨r, rfl, hr, hl, fun t h => ⟨L, N, B, k, by omega, ht t h, hL, hN, hB⟩⟩)⟩
def spRTree (C : Addr) (k : Nat) : Sp := fun vs H Q _ => ∃ (o dx l : Addr) (n : Int) (i : Nat) (U R : List (List Nat)) (t : PV), vs = [.ref o] ∧ LnAt C o dx l n i U H ∧ TrW k t ∧ U.drop i = tokT t ++ R ∧ R.head? ≠ some [40] ∧
  ∀ v H', Is H' v (raw t) → Lx o H H' → LnAt C o dx l n (i + (tokT t).length) U H' → Q v H'
def remT (ts : List PV) : List (List Nat) := ts.flatMap fun t => [44] :: tokT t
theorem sepT_rem : ∀ (t : PV) (r : List PV), sepT ((t :: r).map tokT) = tokT t ++ remT r
  | t, [] => by simp [sepT, remT]
  | t, a :: r => by
    have := sepT_rem a r
    simp only [List.map_cons, sepT] at this ⊢
    rw [this]
    simp [remT]
def spRTrees (C : Addr) (k : Nat) : Sp := fun vs H Q _ => ∃ (o dx l : Addr) (n : Int) (i : Nat) (U R : List (List Nat)) (ts : List PV), vs = [.ref o] ∧ LnAt C o dx l n i U H ∧ ts ≠ [] ∧ ts.length ≤ 3 ∧ (∀ t ∈ ts, TrW k t) ∧ U.drop i = [40] :: (sepT (ts.map tokT) ++ [41] :: R) ∧
  ∀ p vs H', H' p = some (.tup vs) → IsL H' vs (ts.map raw) → Lx o H H' → LnAt C o dx l n (i + (2 + (sepT (ts.map tokT)).length)) U H' → Q (.ref p) H'
theorem ok_Line_take_tree {k : Nat}(T : Txt K mg) (G_Line_comes : FnOk P w K mg base CX0 1 T.a_Line_comes T.d_Line_comes ["self", "token"] (spComes T.c_Line)) (G_Line_take_trees : FnOk P w K mg base CX0 (2*k+4) T.a_Line_take_trees T.d_Line_take_trees ["self"] (spRTrees T.c_Line k)) (G_Line_take_word : FnOk P w K mg base CX0 2 T.a_Line_take_word T.d_Line_take_word ["self"] (spTakeWord T.c_Line)) : FnOk P w K mg base CX0 (2*k+5) T.a_Line_take_tree T.d_Line_take_tree ["self"] (spRTree T.c_Line (k+1)) := by
  refine T.F_Line_take_tree.ok sc_Line_take_tree (fun vs H Q E h => ?_) (fun cdv A outer s H vs Q E hr h => ?_)
  · obtain ⟨o, dx, l, n, i, U, R, t, rfl, _⟩ := h; rfl
  · obtain ⟨o, dx, l, n, i, U, R, t, rfl, L, hT, hd, hR, q⟩ := h
    have hr_Line_comes : Room 1 _ := hr.mono (by omega)
    have hr_Line_take_word : Room 2 _ := hr.mono (by omega)
    have hr_Line_take_trees : Room (2*k+4) _ := hr.mono (by omega)
    refine ⟨_, (pss_cons (ps_set (i := 1) sc_Line_take_tree.nd rfl (Or.inl rfl) (pe_meth0 (pv 0) T.cl_Line T.me_Line_take_word G_Line_take_word hr_Line_take_word T.b_Line_take_word .nil pass0))
    (pss_cons (ps_if (pt_val (pe_meth (pv 0) T.cl_Line T.me_Line_comes G_Line_comes hr_Line_comes T.b_Line_comes .nil pass0 (pa_cons pe_str pa_nil))) (pss_one (ps_ret (pe_op op_catT (pe_tup (pa_cons (pv 1) pa_nil)) (pe_meth0 (pv 0) T.cl_Line T.me_Line_take_trees G_Line_take_trees hr_Line_take_trees T.b_Line_take_trees .nil pass0)))) pss_nil)
    (pss_one (ps_ret (pv 1))))), ?_⟩
    obtain ⟨z, hz, okz, hc⟩ := hT.cases
    obtain ⟨X, eX⟩ : ∃ X, tokT t = cs z :: X := by
      rcases hc with rfl | rfl | ⟨r, rfl, hr, _⟩
      · exact ⟨_, rfl⟩
      · exact ⟨_, rfl⟩
      · have e2 : r.isEmpty = false := by cases r with | nil => exact absurd rfl hr | cons _ _ => rfl
        exact ⟨[40] :: (sepT (tokTL r) ++ [[41]]), by simp only [tokT, e2, Bool.false_eq_true, if_false]⟩
    rw [eX, List.cons_append] at hd
    obtain ⟨g1, g2, g3⟩ := get_drop hd
    refine ⟨_, rfl, o, dx, _, rfl, L.ins, rfl, o, dx, l, n, i, U, z, rfl, L, g1, hz, fun H1 x1 L1 => ?_⟩
    refine ⟨_, rfl, o, dx, _, rfl, L1.ins, rfl, o, dx, l, n, i + 1, U, "(", rfl, L1, by omega, by decide +kernel, fun H2 s2 => ⟨_, rfl, ?_⟩⟩
    have L2 := L1.same s2
    have x2 := x1.trans (Lx.of s2)
    have hn : U[i + 1]? = (X ++ R).head? := by
      rw [← g2, List.head?_drop]
    rcases hc with rfl | rfl | ⟨r, rfl, hr, hl, ht⟩
    · have : X = [] := by simp only [tokT, List.cons.injEq] at eX; exact eX.2.symm
      subst this
      rw [hn, List.nil_append, show cs "(" = [40] from rfl, decide_eq_false hR]
      refine iteF ⟨_, rfl, q _ H2 (by show Is H2 _ (raw (.str z)); exact .str z okz) x2 (by rw [eX]; exact L2)⟩
    · have : X = [] := by simp only [tokT, List.isEmpty_nil, if_true, List.cons.injEq] at eX; exact eX.2.symm
      subst this
      rw [hn, List.nil_append, show cs "(" = [40] from rfl, decide_eq_false hR]
      refine iteF ⟨_, rfl, q _ H2 (by show Is H2 _ (raw (.tup [.str z])); simp only [raw, List.isEmpty_nil, if_true]; exact .str z okz) x2 (by rw [eX]; exact L2)⟩
    · have e2 : r.isEmpty = false := by cases r with | nil => exact absurd rfl hr | cons _ _ => rfl
      have eX2 : X = [40] :: (sepT (r.map tokT) ++ [[41]]) := by
        simp only [tokT, e2, Bool.false_eq_true, if_false, List.cons.injEq, tokTL_map] at eX
        exact eX.2.symm
      rw [hn, eX2, List.cons_append, List.head?_cons, show cs "(" = [40] from rfl, decide_eq_true rfl]
      refine iteT ⟨_, rfl, (by show 1 ≤ sizeLine; decide), fun p1 hp1 => ?_⟩
      have s3 := same_upd hp1 (.tup [V.str z])
      have L3 := L2.same s3
      refine ⟨_, rfl, o, dx, _, rfl, L3.ins, rfl, o, dx, l, n, i + 1, U, R, r, rfl, L3, hr, hl, ht, by rw [g2, eX2]; simp, fun p2 vs H4 e4 i4 x4 L4 => ?_⟩
      have e3 : H4 p1 = some (.tup [V.str z]) := x4 _ _ (fun z => by rw [z, L2.ins] at hp1; cases hp1) upd_same
      have hlen := i4.len
      rw [List.length_map] at hlen
      refine ⟨p1, p2, _, _, rfl, rfl, .inl (.inl e3), .inl (.inl e4), by simp, by rw [List.length_singleton]; exact Nat.le_of_lt (small1000 (by omega)), fun e => ?_, fun _ p5 hp5 => ?_⟩
      · have : r.length = 0 := by rw [← hlen, e]; rfl
        exact absurd (List.length_eq_zero_iff.mp this) hr
      · have s5 := same_upd hp5 (.tup ([V.str z] ++ vs))
        refine q _ _ ?_ (((x2.trans (.of s3)).trans x4).trans (.of s5)) ?_
        · simp only [raw, e2, Bool.false_eq_true, if_false, rawL_map]
          exact .tup upd_same (.cons (.str z okz) (i4.same s5))
        · rw [eX, eX2]
          have := L4.same s5
          rw [show i + (cs z :: [40] :: (sepT (r.map tokT) ++ [[41]])).length = i + 1 + (2 + (sepT (r.map tokT)).length) by simp only [List.length_cons, List.length_append, List.length_nil]; omega]
          exact this
end
end Kx
namespace Kx
open PySem PySem.Spec PyProof.Rows L2
section
variable {P : Program} {w : World} {K : PySem.W.Frag} {mg : Str → Option Value} {base : Heap}
set_option pp.maxSteps 800
theorem rem_head {R : List (List Nat)} (rem : List PV) (h : R.head? ≠ some [40]) : (remT rem ++ R).head? ≠ some [40] := by
  cases rem with
  | nil => exact h
  | cons t r => simp [remT]
theorem rem_cons (t : PV) (r : List PV) : remT (t :: r) = [44] :: (tokT t ++ remT r) := by simp [remT]
theorem ok_Line_take_trees {k : Nat}(T : Txt K mg) (G_Line_skip : FnOk P w K mg base CX0 2 T.a_Line_skip T.d_Line_skip ["self", "token"] (spSkip T.c_Line)) (G_Line_comes : FnOk P w K mg base CX0 1 T.a_Line_comes T.d_Line_comes ["self", "token"] (spComes T.c_Line)) (G_Line_take_tree : FnOk P w K mg base CX0 (2*k+3) T.a_Line_take_tree T.d_Line_take_tree ["self"] (spRTree T.c_Line k)) : FnOk P w K mg base CX0 (2*k+4) T.a_Line_take_trees T.d_Line_take_trees ["self"] (spRTrees T.c_Line k) := by
  refine T.F_Line_take_trees.ok sc_Line_take_trees (fun vs H Q E h => ?_) (fun cdv A outer s H vs Q E hr h => ?_)
  · obtain ⟨o, dx, l, n, i, U, R, ts, rfl, _⟩ := h; rfl
  · obtain ⟨o, dx, l, n, i, U, R, ts, rfl, L, hne, hl3, hT, hd, q⟩ := h
    have hr_Line_comes : Room 1 _ := hr.mono (by omega)
    have hr_Line_skip : Room 2 _ := hr.mono (by omega)
    have hr_Line_take_tree : Room (2*k+3) _ := hr
    refine ⟨_, (pss_cons (ps_expr (pe_meth (pv 0) T.cl_Line T.me_Line_skip G_Line_skip hr_Line_skip T.b_Line_skip .nil pass0 (pa_cons pe_str pa_nil)))
    (pss_cons (ps_set (i := 1) sc_Line_take_trees.nd rfl (Or.inl rfl) (pe_lst (pa_cons (pe_meth0 (pv 0) T.cl_Line T.me_Line_take_tree G_Line_take_tree hr_Line_take_tree T.b_Line_take_tree .nil pass0) pa_nil)))
    (pss_cons (ps_while PassesOwn.never (pt_val (pe_meth (pv 0) T.cl_Line T.me_Line_comes G_Line_comes hr_Line_comes T.b_Line_comes .nil pass0 (pa_cons pe_str pa_nil)))
    (pss_cons (ps_expr (pe_meth (pv 0) T.cl_Line T.me_Line_skip G_Line_skip hr_Line_skip T.b_Line_skip .nil pass0 (pa_cons pe_str pa_nil)))
    (pss_one (ps_expr (pe_bm PySem.F.plainAttrs_list PySem.F.slot_list_append PySem.F.type_list_append mt_append (pv 1) (pa_cons (pe_meth0 (pv 0) T.cl_Line T.me_Line_take_tree G_Line_take_tree hr_Line_take_tree T.b_Line_take_tree .nil pass0) pa_nil))))))
    (pss_cons (ps_expr (pe_meth (pv 0) T.cl_Line T.me_Line_skip G_Line_skip hr_Line_skip T.b_Line_skip .nil pass0 (pa_cons pe_str pa_nil)))
    (pss_one (ps_ret (pe_callTy call_tuple_of (by rfl) T.z_tuple (by decide +kernel) (pa_cons (pv 1) pa_nil)))))))), ?_⟩
    obtain ⟨t0, r0, rfl⟩ : ∃ t r, ts = t :: r := by cases ts with | nil => exact absurd rfl hne | cons t r => exact ⟨t, r, rfl⟩
    rw [sepT_rem] at hd q
    obtain ⟨g1, g2, g3⟩ := get_drop hd
    refine ⟨_, rfl, o, dx, _, rfl, L.ins, rfl, o, dx, l, n, i, U, "(", rfl, L, g1, fun H1 x1 L1 => ?_⟩
    rw [List.append_assoc] at g2
    have h41 : (([41] : List Nat) :: R).head? ≠ some [40] := by simp
    refine ⟨_, rfl, o, dx, _, rfl, L1.ins, rfl, o, dx, l, n, i + 1, U, remT r0 ++ [41] :: R, t0, rfl, L1, hT t0 (List.mem_cons_self ..), g2, rem_head r0 h41, fun v H2 iv x2 L2 => ⟨(by show 1 ≤ sizeLine; decide), fun p hp => ?_⟩⟩
    have s3 := same_upd hp (.lst [v])
    have L3 := L2.same s3
    have npo : p ≠ o := fun z => by rw [z, L2.ins] at hp; cases hp
    have hp0 : H p = none := by
      cases e : H p with
      | none => rfl
      | some u => have := x2 _ _ npo (x1 _ _ npo e); rw [hp] at this; cases this
    have x13 := x1.trans (x2.trans (.of s3))
    have inv0 : ∃ (done rem : List PV) (vs : List V) (j : Nat), t0 :: r0 = done ++ rem ∧ LnAt T.c_Line o dx l n j U (upd H2 p (.lst [v])) ∧ U.drop j = remT rem ++ [41] :: R ∧ (upd H2 p (.lst [v])) p = some (.lst vs) ∧ IsL (upd H2 p (.lst [v])) vs (done.map raw) ∧ Lx o H (upd H2 p (.lst [v])) ∧ j + (remT rem).length = i + 1 + (tokT t0 ++ remT r0).length ∧ rem.length = rem.length := by
      refine ⟨[t0], r0, [v], i + 1 + (tokT t0).length, rfl, L3, drop_app g2, upd_same, .cons (iv.same s3) .nil, x13, ?_, rfl⟩
      rw [List.length_append]; omega
    refine ⟨fun m σ H' => ∃ (done rem : List PV) (vs : List V) (j : Nat), σ = [some (.ref o), some (.ref p)] ∧ t0 :: r0 = done ++ rem ∧ LnAt T.c_Line o dx l n j U H' ∧ U.drop j = remT rem ++ [41] :: R ∧ H' p = some (.lst vs) ∧ IsL H' vs (done.map raw) ∧ Lx o H H' ∧ j + (remT rem).length = i + 1 + (tokT t0 ++ remT r0).length ∧ m = rem.length, ?_, ?_⟩
    · obtain ⟨a, b, c, d, e1, e2, e3, e4, e5, e6, e7, _⟩ := inv0
      exact ⟨_, a, b, c, d, rfl, e1, e2, e3, e4, e5, e6, e7, rfl⟩
    rintro m σ H' ⟨done, rem, vs, j, rfl, hts, L', hj, ep, ivs, x', hcnt, rfl⟩
    have hjl : j ≤ U.length := by
      cases hrm : remT rem ++ [41] :: R with
      | nil => simp at hrm
      | cons a b => rw [hrm] at hj; exact Nat.le_of_lt (get_drop hj).2.2
    refine ⟨_, rfl, o, dx, _, rfl, L'.ins, rfl, o, dx, l, n, j, U, ",", rfl, L', hjl, by decide +kernel, fun H3 sc => ⟨_, rfl, ?_⟩⟩
    have Lc := L'.same sc
    have xc := x'.trans (Lx.of sc)
    have epc := sc _ _ ep
    have ivc := ivs.same sc
    cases rem with
    | nil =>
      have hj2 : U.drop j = [41] :: R := hj
      obtain ⟨k1, k2, k3⟩ := get_drop hj2
      rw [k1, show decide (some [41] = some (cs ",")) = false by decide]
      refine iteF ⟨_, rfl, o, dx, _, rfl, Lc.ins, rfl, o, dx, l, n, j, U, ")", rfl, Lc, k1, fun H4 x4 L4 => ?_⟩
      have ep4 := x4 _ _ npo epc
      refine ⟨_, rfl, p, vs, rfl, .inl ⟨SqL.of ep4, fun q2 hq2 => ?_⟩⟩
      have s5 := same_upd hq2 (.tup vs)
      rw [List.append_nil] at hts
      rw [← hts] at ivc
      refine q q2 vs _ upd_same ((ivc.tk (Lc.tk x4)).same s5) ((xc.trans x4).trans (.of s5)) ?_
      have := L4.same s5
      have hc : j = i + 1 + (tokT t0 ++ remT r0).length := by simpa [remT] using hcnt
      rw [show i + (2 + (tokT t0 ++ remT r0).length) = j + 1 by omega]
      exact this
    | cons t r =>
      rw [rem_cons, List.cons_append, List.append_assoc] at hj
      obtain ⟨k1, k2, k3⟩ := get_drop hj
      rw [k1, show decide (some [44] = some (cs ",")) = true by decide]
      refine iteT ⟨fun σ' H5 => ∃ (vs' : List V) (j' : Nat), σ' = [some (.ref o), some (.ref p)] ∧ LnAt T.c_Line o dx l n j' U H5 ∧ U.drop j' = remT r ++ [41] :: R ∧ H5 p = some (.lst vs') ∧ IsL H5 vs' ((done ++ [t]).map raw) ∧ Lx o H H5 ∧ j' + (remT r).length = i + 1 + (tokT t0 ++ remT r0).length,
        fun σ' H5 ⟨vs', j', a1, a2, a3, a4, a5, a6, a7⟩ => ⟨r.length, by simp, done ++ [t], r, vs', j', a1, by rw [hts]; simp, a2, a3, a4, a5, a6, a7, rfl⟩, ?_⟩
      refine ⟨_, rfl, o, dx, _, rfl, Lc.ins, rfl, o, dx, l, n, j, U, ",", rfl, Lc, k1, fun H4 x4 L4 => ?_⟩
      have ep4 := x4 _ _ npo epc
      refine ⟨_, rfl, .inl ⟨rfl, _, SqL.of ep4⟩, _, rfl, o, dx, _, rfl, L4.ins, rfl, o, dx, l, n, j + 1, U, remT r ++ [41] :: R, t, rfl, L4, hT t (by rw [hts]; simp), k2, rem_head r h41, fun v5 H5 iv5 x5 L5 => ?_⟩
      have ep5 := x5 _ _ npo ep4
      have hlen := ivc.len
      rw [List.length_map] at hlen
      have ld : done.length ≤ 3 := by have := congrArg List.length hts; rw [List.length_append] at this; simp at this hl3; omega
      have nlp : l ≠ p := fun z => by
        have h1 := L2.lst
        rw [z, hp] at h1; cases h1
      have L6 : LnAt T.c_Line o dx l n (j + 1 + (tokT t).length) U (upd H5 p (.lst (vs ++ [v5]))) := ⟨by rw [upd_ne npo.symm]; exact L5.ins, by rw [upd_ne nlp]; exact L5.lst, L5.len, L5.ok⟩
      refine ⟨p, _, _, rfl, rfl, ep5, small1000 (by omega), vs ++ [v5], _, rfl, L6, drop_app k2, upd_same, ?_, (xc.trans (x4.trans x5)).own hp0 _, ?_⟩
      · rw [List.map_append]
        exact IsL.over ep5 (((ivc.tk (Lc.tk x4)).tk (L4.tk x5)).append (.cons iv5 .nil))
      · rw [rem_cons] at hcnt
        simp only [List.length_cons, List.length_append] at hcnt ⊢
        omega
theorem all_rtree (T : Txt K mg) : ∀ k, FnOk P w K mg base CX0 (2 * k + 3) T.a_Line_take_tree T.d_Line_take_tree ["self"] (spRTree T.c_Line k)
  | 0 => no_left fun vs H Q E ⟨_, _, _, _, _, _, _, _, _, _, ⟨_, _, _, _, h, _⟩, _⟩ => by omega
  | k + 1 => ok_Line_take_tree T (ok_Line_comes T) (ok_Line_take_trees T (ok_Line_skip T (ok_Line_take T)) (ok_Line_comes T) (all_rtree T k)) (ok_Line_take_word T (ok_is_word T) (ok_Line_take T))
theorem all_rtrees (T : Txt K mg) (k : Nat) : FnOk P w K mg base CX0 (2 * k + 4) T.a_Line_take_trees T.d_Line_take_trees ["self"] (spRTrees T.c_Line k) :=
  ok_Line_take_trees T (ok_Line_skip T (ok_Line_take T)) (ok_Line_comes T) (all_rtree T k)
/-! ### kinds -/
def rawK (k : Kd) : PV := .tup [.str k.fam, raw k.tm]
def KdW (k : Kd) : Prop := WkB k.fam ∧ sok k.fam = true ∧ TrW 3 k.tm
def spRKind (C : Addr) : Sp := fun vs H Q _ => ∃ (o dx l : Addr) (n : Int) (i : Nat) (U R : List (List Nat)) (k : Kd), vs = [.ref o] ∧ LnAt C o dx l n i U H ∧ KdW k ∧ U.drop i = tokK k ++ R ∧
  ∀ v H', Is H' v (rawK k) → Lx o H H' → LnAt C o dx l n (i + (tokK k).length) U H' → Q v H'
theorem ok_take_kind (T : Txt K mg) (G_Line_skip : FnOk P w K mg base CX0 2 T.a_Line_skip T.d_Line_skip ["self", "token"] (spSkip T.c_Line)) (G_Line_take_word : FnOk P w K mg base CX0 2 T.a_Line_take_word T.d_Line_take_word ["self"] (spTakeWord T.c_Line)) (G_Line_take_tree : FnOk P w K mg base CX0 9 T.a_Line_take_tree T.d_Line_take_tree ["self"] (spRTree T.c_Line 3)) : FnOk P w K mg base CX0 10 T.a_take_kind T.d_take_kind ["line"] (spRKind T.c_Line) := by
  refine T.F_take_kind.ok sc_take_kind (fun vs H Q E h => ?_) (fun cdv A outer s H vs Q E hr h => ?_)
  · obtain ⟨o, dx, l, n, i, U, R, k, rfl, _⟩ := h; rfl
  · obtain ⟨o, dx, l, n, i, U, R, k, rfl, L, ⟨w1, w2, w3⟩, hd, q⟩ := h
    have hr_Line_skip : Room 2 _ := hr.mono (by decide)
    have hr_Line_take_word : Room 2 _ := hr.mono (by decide)
    have hr_Line_take_tree : Room 9 _ := hr
    refine ⟨_, (pss_cons (ps_set (i := 1) sc_take_kind.nd rfl (Or.inl rfl) (pe_meth0 (pv 0) T.cl_Line T.me_Line_take_word G_Line_take_word hr_Line_take_word T.b_Line_take_word .nil pass0))
    (pss_cons (ps_expr (pe_meth (pv 0) T.cl_Line T.me_Line_skip G_Line_skip hr_Line_skip T.b_Line_skip .nil pass0 (pa_cons pe_str pa_nil)))
    (pss_cons (ps_set (i := 2) sc_take_kind.nd rfl (Or.inl rfl) (pe_meth0 (pv 0) T.cl_Line T.me_Line_take_tree G_Line_take_tree hr_Line_take_tree T.b_Line_take_tree .nil pass0))
    (pss_cons (ps_expr (pe_meth (pv 0) T.cl_Line T.me_Line_skip G_Line_skip hr_Line_skip T.b_Line_skip .nil pass0 (pa_cons pe_str pa_nil)))
    (pss_one (ps_ret (pe_tup (pa_cons (pv 1) (pa_cons (pv 2) pa_nil))))))))), ?_⟩
    have hd0 : U.drop i = cs k.fam :: ([40] :: (tokT k.tm ++ ([41] :: R))) := by rw [hd]; simp [tokK]
    obtain ⟨a1, a2, a3⟩ := get_drop hd0
    obtain ⟨b1, b2, b3⟩ := get_drop a2
    have c0 := drop_app b2
    obtain ⟨c1, c2, c3⟩ := get_drop c0
    refine ⟨_, rfl, o, dx, _, rfl, L.ins, rfl, o, dx, l, n, i, U, k.fam, rfl, L, a1, w1, fun H1 x1 L1 => ?_⟩
    refine ⟨_, rfl, o, dx, _, rfl, L1.ins, rfl, o, dx, l, n, i + 1, U, "(", rfl, L1, b1, fun H2 x2 L2 => ?_⟩
    refine ⟨_, rfl, o, dx, _, rfl, L2.ins, rfl, o, dx, l, n, i + 1 + 1, U, [41] :: R, k.tm, rfl, L2, w3, b2, by simp, fun v H3 iv x3 L3 => ?_⟩
    refine ⟨_, rfl, o, dx, _, rfl, L3.ins, rfl, o, dx, l, n, i + 1 + 1 + (tokT k.tm).length, U, ")", rfl, L3, c1, fun H4 x4 L4 => ?_⟩
    refine ⟨_, rfl, _, rfl, (by show 2 ≤ sizeLine; decide), fun p hp => ?_⟩
    have s5 := same_upd hp (.tup [V.str k.fam, v])
    refine q _ _ (.tup upd_same (.cons (.str _ w2) (.cons ((iv.tk (L3.tk x4)).same s5) .nil))) ((((x1.trans x2).trans x3).trans x4).trans (.of s5)) ?_
    have := L4.same s5
    rw [show i + (tokK k).length = i + 1 + 1 + (tokT k.tm).length + 1 by simp only [tokK, List.length_cons, List.length_append, List.length_nil]; omega]
    exact this
def remK (ks : List Kd) : List (List Nat) := ks.flatMap fun k => [44] :: tokK k
theorem sepK_rem : ∀ (t : Kd) (r : List Kd), sepT ((t :: r).map tokK) = tokK t ++ remK r
  | t, [] => by simp [sepT, remK]
  | t, a :: r => by
    have := sepK_rem a r
    simp only [List.map_cons, sepT] at this ⊢
    rw [this]
    simp [remK]
theorem remK_cons (t : Kd) (r : List Kd) : remK (t :: r) = [44] :: (tokK t ++ remK r) := by simp [remK]
def spRKinds (C : Addr) : Sp := fun vs H Q _ => ∃ (o dx l : Addr) (n : Int) (i : Nat) (U R : List (List Nat)) (ks : List Kd), vs = [.ref o] ∧ LnAt C o dx l n i U H ∧ ks ≠ [] ∧ ks.length ≤ 3 ∧ (∀ k ∈ ks, KdW k) ∧ U.drop i = sepT (ks.map tokK) ++ R ∧ R.head? ≠ some [44] ∧ R ≠ [] ∧
  ∀ p vs H', H' p = some (.tup vs) → IsL H' vs (ks.map rawK) → Lx o H H' → LnAt C o dx l n (i + (sepT (ks.map tokK)).length) U H' → Q (.ref p) H'
theorem ok_take_kinds (T : Txt K mg) (G_take_kind : FnOk P w K mg base CX0 10 T.a_take_kind T.d_take_kind ["line"] (spRKind T.c_Line)) (G_Line_skip : FnOk P w K mg base CX0 2 T.a_Line_skip T.d_Line_skip ["self", "token"] (spSkip T.c_Line)) (G_Line_comes : FnOk P w K mg base CX0 1 T.a_Line_comes T.d_Line_comes ["self", "token"] (spComes T.c_Line)) : FnOk P w K mg base CX0 11 T.a_take_kinds T.d_take_kinds ["line"] (spRKinds T.c_Line) := by
  refine T.F_take_kinds.ok sc_take_kinds (fun vs H Q E h => ?_) (fun cdv A outer s H vs Q E hr h => ?_)
  · obtain ⟨o, dx, l, n, i, U, R, ks, rfl, _⟩ := h; rfl
  · obtain ⟨o, dx, l, n, i, U, R, ks, rfl, L, hne, hl3, hT, hd, hR, hRn, q⟩ := h
    have hr_Line_comes : Room 1 _ := hr.mono (by decide)
    have hr_Line_skip : Room 2 _ := hr.mono (by decide)
    have hr_take_kind : Room 10 _ := hr
    refine ⟨_, (pss_cons (ps_set (i := 1) sc_take_kinds.nd rfl (Or.inl rfl) (pe_lst (pa_cons (pe_call G_take_kind hr_take_kind rfl T.m_take_kind T.F_take_kind.kp T.b_take_kind .nil pass0 (pa_cons (pv 0) pa_nil)) pa_nil)))
    (pss_cons (ps_while PassesOwn.never (pt_val (pe_meth (pv 0) T.cl_Line T.me_Line_comes G_Line_comes hr_Line_comes T.b_Line_comes .nil pass0 (pa_cons pe_str pa_nil)))
    (pss_cons (ps_expr (pe_meth (pv 0) T.cl_Line T.me_Line_skip G_Line_skip hr_Line_skip T.b_Line_skip .nil pass0 (pa_cons pe_str pa_nil)))
    (pss_one (ps_expr (pe_bm PySem.F.plainAttrs_list PySem.F.slot_list_append PySem.F.type_list_append mt_append (pv 1) (pa_cons (pe_call G_take_kind hr_take_kind rfl T.m_take_kind T.F_take_kind.kp T.b_take_kind .nil pass0 (pa_cons (pv 0) pa_nil)) pa_nil))))))
    (pss_one (ps_ret (pe_callTy call_tuple_of (by rfl) T.z_tuple (by decide +kernel) (pa_cons (pv 1) pa_nil)))))), ?_⟩
    obtain ⟨t0, r0, rfl⟩ : ∃ t r, ks = t :: r := by cases ks with | nil => exact absurd rfl hne | cons t r => exact ⟨t, r, rfl⟩
    rw [sepK_rem] at hd q
    rw [List.append_assoc] at hd
    refine ⟨_, rfl, o, dx, l, n, i, U, remK r0 ++ R, t0, rfl, L, hT t0 (List.mem_cons_self ..), hd, fun v H2 iv x2 L2 => ⟨(by show 1 ≤ sizeLine; decide), fun p hp => ?_⟩⟩
    have s3 := same_upd hp (.lst [v])
    have L3 := L2.same s3
    have npo : p ≠ o := fun z => by rw [z, L2.ins] at hp; cases hp
    have hp0 : H p = none := by
      cases e : H p with
      | none => rfl
      | some u => have := x2 _ _ npo e; rw [hp] at this; cases this
    refine ⟨fun m σ H' => ∃ (done rem : List Kd) (vs : List V) (j : Nat), σ = [some (.ref o), some (.ref p)] ∧ t0 :: r0 = done ++ rem ∧ LnAt T.c_Line o dx l n j U H' ∧ U.drop j = remK rem ++ R ∧ H' p = some (.lst vs) ∧ IsL H' vs (done.map rawK) ∧ Lx o H H' ∧ j + (remK rem).length = i + (tokK t0 ++ remK r0).length ∧ m = rem.length,
      ⟨_, [t0], r0, [v], i + (tokK t0).length, rfl, rfl, L3, drop_app hd, upd_same, .cons (iv.same s3) .nil, x2.trans (.of s3), by rw [List.length_append]; omega, rfl⟩, ?_⟩
    rintro m σ H' ⟨done, rem, vs, j, rfl, hts, L', hj, ep, ivs, x', hcnt, rfl⟩
    have hjl : j ≤ U.length := by
      cases hrm : remK rem ++ R with
      | nil => exact absurd (List.append_eq_nil_iff.mp hrm).2 hRn
      | cons a b => rw [hrm] at hj; exact Nat.le_of_lt (get_drop hj).2.2
    refine ⟨_, rfl, o, dx, _, rfl, L'.ins, rfl, o, dx, l, n, j, U, ",", rfl, L', hjl, by decide +kernel, fun H3 sc => ⟨_, rfl, ?_⟩⟩
    have Lc := L'.same sc
    have xc := x'.trans (Lx.of sc)
    have epc := sc _ _ ep
    have ivc := ivs.same sc
    cases rem with
    | nil =>
      have hj2 : U.drop j = R := hj
      have hh : U[j]? = R.head? := by rw [← hj2, List.head?_drop]
      rw [hh, show cs "," = [44] from rfl, decide_eq_false hR]
      refine iteF ⟨_, rfl, p, vs, rfl, .inl ⟨SqL.of epc, fun q2 hq2 => ?_⟩⟩
      have s5 := same_upd hq2 (.tup vs)
      rw [List.append_nil] at hts
      rw [← hts] at ivc
      refine q q2 vs _ upd_same (ivc.same s5) (xc.trans (.of s5)) ?_
      have := Lc.same s5
      have hc : j = i + (tokK t0 ++ remK r0).length := by simpa [remK] using hcnt
      rw [← hc]
      exact this
    | cons t r =>
      rw [remK_cons, List.cons_append, List.append_assoc] at hj
      obtain ⟨k1, k2, k3⟩ := get_drop hj
      rw [k1, show decide (some [44] = some (cs ",")) = true by decide]
      refine iteT ⟨fun σ' H5 => ∃ (vs' : List V) (j' : Nat), σ' = [some (.ref o), some (.ref p)] ∧ LnAt T.c_Line o dx l n j' U H5 ∧ U.drop j' = remK r ++ R ∧ H5 p = some (.lst vs') ∧ IsL H5 vs' ((done ++ [t]).map rawK) ∧ Lx o H H5 ∧ j' + (remK r).length = i + (tokK t0 ++ remK r0).length,
        fun σ' H5 ⟨vs', j', a1, a2, a3, a4, a5, a6, a7⟩ => ⟨r.length, by simp, done ++ [t], r, vs', j', a1, by rw [hts]; simp, a2, a3, a4, a5, a6, a7, rfl⟩, ?_⟩
      refine ⟨_, rfl, o, dx, _, rfl, Lc.ins, rfl, o, dx, l, n, j, U, ",", rfl, Lc, k1, fun H4 x4 L4 => ?_⟩
      have ep4 := x4 _ _ npo epc
      refine ⟨_, rfl, .inl ⟨rfl, _, SqL.of ep4⟩, _, rfl, o, dx, l, n, j + 1, U, remK r ++ R, t, rfl, L4, hT t (by rw [hts]; simp), k2, fun v5 H5 iv5 x5 L5 => ?_⟩
      have ep5 := x5 _ _ npo ep4
      have hlen := ivc.len
      rw [List.length_map] at hlen
      have ld : done.length ≤ 3 := by have := congrArg List.length hts; rw [List.length_append] at this; simp at this hl3; omega
      have nlp : l ≠ p := fun z => by
        have h1 := L2.lst
        rw [z, hp] at h1; cases h1
      have L6 : LnAt T.c_Line o dx l n (j + 1 + (tokK t).length) U (upd H5 p (.lst (vs ++ [v5]))) := ⟨by rw [upd_ne npo.symm]; exact L5.ins, by rw [upd_ne nlp]; exact L5.lst, L5.len, L5.ok⟩
      refine ⟨p, _, _, rfl, rfl, ep5, small1000 (by omega), vs ++ [v5], _, rfl, L6, drop_app k2, upd_same, ?_, (xc.trans (x4.trans x5)).own hp0 _, ?_⟩
      · rw [List.map_append]
        exact IsL.over ep5 (((ivc.tk (Lc.tk x4)).tk (L4.tk x5)).append (.cons iv5 .nil))
      · rw [remK_cons] at hcnt
        simp only [List.length_cons, List.length_append] at hcnt ⊢
        omega
end
end Kx
namespace Kx
open PySem PySem.Spec PyProof.Rows L2
section
variable {P : Program} {w : World} {K : PySem.W.Frag} {mg : Str → Option Value} {base : Heap}
set_option pp.maxSteps 800
/-! ### the draft -/
def cnR (c : Cn) : PV := .tup [.str c.w, .tup (c.ps.map rawK), .str c.md.fam, raw c.md.tm]
def clR (c : Cl) : PV := .tup [.tup (c.ps.map raw), raw c.b]
structure DS where
  ms : List (Str × Nat)
  fm : List Str
  cn : List Cn
  fs : List Fn
inductive FnL (H : Hp) : List V → List Addr → List Fn → Prop
  | nil : FnL H [] [] []
  | cons {p q : Addr} {kv ix : V} {vs us : List V} {qs : List Addr} {f : Fn} {fs : List Fn} (e : H p = some (.tup [.str f.w, kv, .str f.md.fam, ix, .int f.falls, .ref q])) (o1 : sok f.w = true) (o2 : sok f.md.fam = true) (ik : Is H kv (.tup (f.ps.map rawK))) (ii : Is H ix (raw f.md.tm))
    (eq : H q = some (.lst us)) (il : IsL H us (f.cls.map clR)) (r : FnL H vs qs fs) : FnL H (.ref p :: vs) (q :: qs) (f :: fs)
theorem FnL.keep {H H' : Hp} (t : Tk H H') : ∀ {vs : List V} {qs : List Addr} {fs : List Fn}, FnL H vs qs fs → (∀ q ∈ qs, ∀ u, H q = some u → H' q = some u) → FnL H' vs qs fs
  | _, _, _, .nil, _ => .nil
  | _, _, _, .cons e o1 o2 ik ii eq il r, k => .cons (t _ _ e) o1 o2 (ik.tk t) (ii.tk t) (k _ (List.mem_cons_self ..) _ eq) (il.tk t) (r.keep t fun q hq => k q (List.mem_cons_of_mem _ hq))
theorem FnL.lst {H : Hp} : ∀ {vs : List V} {qs : List Addr} {fs : List Fn}, FnL H vs qs fs → ∀ q ∈ qs, ∃ us, H q = some (.lst us)
  | _, _, _, .cons _ _ _ _ _ eq _ r, q, hq => by
    rcases List.mem_cons.mp hq with rfl | hq
    · exact ⟨_, eq⟩
    · exact r.lst q hq
theorem FnL.len {H : Hp} : ∀ {vs : List V} {qs : List Addr} {fs : List Fn}, FnL H vs qs fs → vs.length = fs.length
  | _, _, _, .nil => rfl
  | _, _, _, .cons _ _ _ _ _ _ _ r => by rw [List.length_cons, List.length_cons, r.len]
theorem FnL.snoc {H : Hp} {p q : Addr} {kv ix : V} {us : List V} {f : Fn} (e : H p = some (.tup [.str f.w, kv, .str f.md.fam, ix, .int f.falls, .ref q])) (o1 : sok f.w = true) (o2 : sok f.md.fam = true) (ik : Is H kv (.tup (f.ps.map rawK))) (ii : Is H ix (raw f.md.tm))
    (eq : H q = some (.lst us)) (il : IsL H us (f.cls.map clR)) : ∀ {vs : List V} {qs : List Addr} {fs : List Fn}, FnL H vs qs fs → FnL H (vs ++ [.ref p]) (qs ++ [q]) (fs ++ [f])
  | _, _, _, .nil => .cons e o1 o2 ik ii eq il .nil
  | _, _, _, .cons a b c d e2 f2 g r => .cons a b c d e2 f2 g (r.snoc e o1 o2 ik ii eq il)
theorem FnL.last {H : Hp} {f : Fn} : ∀ {fs : List Fn} {vs : List V} {qs : List Addr}, FnL H vs qs (fs ++ [f]) → ∃ vs' qs' p q kv ix us, vs = vs' ++ [.ref p] ∧ qs = qs' ++ [q] ∧ FnL H vs' qs' fs ∧ H p = some (.tup [.str f.w, kv, .str f.md.fam, ix, .int f.falls, .ref q]) ∧ sok f.w = true ∧ sok f.md.fam = true ∧ Is H kv (.tup (f.ps.map rawK)) ∧ Is H ix (raw f.md.tm) ∧ H q = some (.lst us) ∧ IsL H us (f.cls.map clR)
  | [], _, _, .cons e o1 o2 ik ii eq il .nil => ⟨[], [], _, _, _, _, _, rfl, rfl, .nil, e, o1, o2, ik, ii, eq, il⟩
  | g :: fs, _, _, .cons a b c d e2 f2 i r => by
    obtain ⟨vs', qs', p, q, kv, ix, us, rfl, rfl, h, t⟩ := FnL.last r
    exact ⟨_ :: vs', _ :: qs', p, q, kv, ix, us, rfl, rfl, .cons a b c d e2 f2 i h, t⟩
theorem ne_mem {x y : Addr} {l : List Addr} (h : x ∉ l) (hy : y ∈ l) : y ≠ x := fun z => h (z ▸ hy)
structure DA where
  d : Addr
  dx : Addr
  lm : Addr
  lf : Addr
  lc : Addr
  lg : Addr
  lq : Addr
  qs : List Addr
def DA.fp (a : DA) : List Addr := a.lm :: a.lf :: a.lc :: a.lg :: a.qs
def DA.flds (a : DA) : List (Str × V) := [("asks", .bl false), ("makers", .ref a.lm), ("families", .ref a.lf), ("constructors", .ref a.lc), ("functions", .ref a.lg), ("questions", .ref a.lq)]
structure DfAt (C : Addr) (a : DA) (s : DS) (H : Hp) : Prop where
  ins : H a.d = some (.ins C a.dx a.flds)
  nd : a.fp.Nodup
  mak : ∃ vs, H a.lm = some (.lst vs) ∧ IsL H vs (s.ms.map mkP)
  fm : H a.lf = some (.lst (s.fm.map V.str))
  fo : ∀ z ∈ s.fm, sok z = true
  cn : ∃ vs, H a.lc = some (.lst vs) ∧ IsL H vs (s.cn.map cnR)
  fn : ∃ vs, H a.lg = some (.lst vs) ∧ FnL H vs a.qs s.fs
section
variable {C : Addr} {a : DA} {s : DS} {H H' : Hp}
theorem DfAt.lst (D : DfAt C a s H) : ∀ b ∈ a.fp, ∃ xs, H b = some (.lst xs) := fun b hb => by
  unfold DA.fp at hb
  simp only [List.mem_cons] at hb
  rcases hb with rfl | rfl | rfl | rfl | hb
  · obtain ⟨vs, e, _⟩ := D.mak; exact ⟨_, e⟩
  · exact ⟨_, D.fm⟩
  · obtain ⟨vs, e, _⟩ := D.cn; exact ⟨_, e⟩
  · obtain ⟨vs, e, _⟩ := D.fn; exact ⟨_, e⟩
  · obtain ⟨vs, _, f⟩ := D.fn; exact f.lst b hb
theorem DfAt.keep (D : DfAt C a s H) (t : Tk H H') (k : ∀ b u, b = a.d ∨ b ∈ a.fp → H b = some u → H' b = some u) : DfAt C a s H' := by
  obtain ⟨vm, em, im⟩ := D.mak
  obtain ⟨vc, ec, ic⟩ := D.cn
  obtain ⟨vg, eg, ig⟩ := D.fn
  exact ⟨k _ _ (.inl rfl) D.ins, D.nd, ⟨vm, k _ _ (.inr (by simp [DA.fp])) em, im.tk t⟩, k _ _ (.inr (by simp [DA.fp])) D.fm, D.fo, ⟨vc, k _ _ (.inr (by simp [DA.fp])) ec, ic.tk t⟩, vg, k _ _ (.inr (by simp [DA.fp])) eg, ig.keep t fun q hq u => k q u (.inr (by simp [DA.fp, hq]))⟩
theorem DfAt.same (D : DfAt C a s H) (x : Same H H') : DfAt C a s H' := D.keep (.of x) fun b u _ => x b u
theorem DfAt.lx {o : Addr} (D : DfAt C a s H) {C2 dx l : Addr} {n : Int} {i : Nat} {U : List (List Nat)} (L : LnAt C2 o dx l n i U H) (x : Lx o H H') (ne : o ≠ a.d) : DfAt C a s H' :=
  D.keep (L.tk x) fun b u hb h => x b u (fun e => by
    subst e
    rcases hb with e | hb
    · exact ne e
    · obtain ⟨xs, e⟩ := D.lst b hb
      rw [L.ins] at e; cases e) h
/-- a list of it is written -/
theorem wr_tk {b : Addr} {xs ys : List V} (e : H b = some (.lst xs)) : Tk H (upd H b (.lst ys)) := fun a us e2 => by rw [upd_ne (fun q => by rw [q, e] at e2; cases e2)]; exact e2
theorem DfAt.addM (D : DfAt C a s H) {vs : List V} {v : V} {m : Str × Nat} (e : H a.lm = some (.lst vs)) (i : Is H v (mkP m)) : DfAt C a { s with ms := s.ms ++ [m] } (upd H a.lm (.lst (vs ++ [v]))) := by
  have t := wr_tk (ys := vs ++ [v]) e
  obtain ⟨vm, em, im⟩ := D.mak
  rw [em] at e
  cases e
  obtain ⟨vc, ec, ic⟩ := D.cn
  obtain ⟨vg, eg, ig⟩ := D.fn
  have nd := D.nd
  unfold DA.fp at nd
  simp only [List.nodup_cons, List.mem_cons, not_or] at nd
  obtain ⟨⟨n1, n2, n3, n4⟩, _⟩ := nd
  refine ⟨by rw [upd_ne (fun q => by have := D.ins; rw [q, em] at this; cases this)]; exact D.ins, D.nd, ⟨_, upd_same, ?_⟩, by rw [upd_ne (Ne.symm n1)]; exact D.fm, D.fo, ⟨vc, by rw [upd_ne (Ne.symm n2)]; exact ec, ic.tk t⟩, vg, by rw [upd_ne (Ne.symm n3)]; exact eg, ig.keep t fun q hq u h => by rw [upd_ne (ne_mem n4 hq)]; exact h⟩
  rw [List.map_append]
  exact (im.tk t).append (.cons (i.tk t) .nil)
theorem DfAt.addF (D : DfAt C a s H) {z : Str} (oz : sok z = true) : DfAt C a { s with fm := s.fm ++ [z] } (upd H a.lf (.lst (s.fm.map V.str ++ [.str z]))) := by
  have t := wr_tk (ys := s.fm.map V.str ++ [.str z]) D.fm
  obtain ⟨vm, em, im⟩ := D.mak
  obtain ⟨vc, ec, ic⟩ := D.cn
  obtain ⟨vg, eg, ig⟩ := D.fn
  have nd := D.nd
  unfold DA.fp at nd
  simp only [List.nodup_cons, List.mem_cons, not_or] at nd
  obtain ⟨⟨n1, n2, n3, n4⟩, ⟨m1, m2, m3⟩, _⟩ := nd
  refine ⟨by rw [upd_ne (fun q => by have := D.ins; rw [q, D.fm] at this; cases this)]; exact D.ins, D.nd, ⟨_, by rw [upd_ne n1]; exact em, im.tk t⟩, by rw [upd_same, List.map_append]; rfl, fun x hx => ?_, ⟨vc, by rw [upd_ne (Ne.symm m1)]; exact ec, ic.tk t⟩, vg, by rw [upd_ne (Ne.symm m2)]; exact eg, ig.keep t fun q hq u h => by rw [upd_ne (ne_mem m3 hq)]; exact h⟩
  rcases List.mem_append.mp hx with h | h
  · exact D.fo x h
  · rw [List.mem_singleton.mp h]; exact oz
theorem DfAt.addC (D : DfAt C a s H) {vs : List V} {v : V} {c : Cn} (e : H a.lc = some (.lst vs)) (i : Is H v (cnR c)) : DfAt C a { s with cn := s.cn ++ [c] } (upd H a.lc (.lst (vs ++ [v]))) := by
  have t := wr_tk (ys := vs ++ [v]) e
  obtain ⟨vm, em, im⟩ := D.mak
  obtain ⟨vc, ec, ic⟩ := D.cn
  rw [ec] at e
  cases e
  obtain ⟨vg, eg, ig⟩ := D.fn
  have nd := D.nd
  unfold DA.fp at nd
  simp only [List.nodup_cons, List.mem_cons, not_or] at nd
  obtain ⟨⟨n1, n2, n3, n4⟩, ⟨m1, m2, m3⟩, ⟨k1, k2⟩, _⟩ := nd
  refine ⟨by rw [upd_ne (fun q => by have := D.ins; rw [q, ec] at this; cases this)]; exact D.ins, D.nd, ⟨_, by rw [upd_ne n2]; exact em, im.tk t⟩, by rw [upd_ne m1]; exact D.fm, D.fo, ⟨_, upd_same, ?_⟩, vg, by rw [upd_ne (Ne.symm k1)]; exact eg, ig.keep t fun q hq u h => by rw [upd_ne (ne_mem k2 hq)]; exact h⟩
  rw [List.map_append]
  exact (ic.tk t).append (.cons (i.tk t) .nil)
theorem DfAt.addG (D : DfAt C a s H) {vs : List V} {p q : Addr} {kv ix : V} {f : Fn} (e : H a.lg = some (.lst vs)) (ep : H p = some (.tup [.str f.w, kv, .str f.md.fam, ix, .int f.falls, .ref q])) (o1 : sok f.w = true) (o2 : sok f.md.fam = true) (ik : Is H kv (.tup (f.ps.map rawK))) (ii : Is H ix (raw f.md.tm))
    (eq : H q = some (.lst [])) (hc : f.cls = []) (nq : q ∉ a.fp) : DfAt C { a with qs := a.qs ++ [q] } { s with fs := s.fs ++ [f] } (upd H a.lg (.lst (vs ++ [.ref p]))) := by
  have t := wr_tk (ys := vs ++ [.ref p]) e
  obtain ⟨vm, em, im⟩ := D.mak
  obtain ⟨vc, ec, ic⟩ := D.cn
  obtain ⟨vg, eg, ig⟩ := D.fn
  rw [eg] at e
  cases e
  have nd := D.nd
  unfold DA.fp at nd nq
  simp only [List.nodup_cons, List.mem_cons, not_or] at nd nq
  obtain ⟨⟨n1, n2, n3, n4⟩, ⟨m1, m2, m3⟩, ⟨k1, k2⟩, j1, j2⟩ := nd
  obtain ⟨q1, q2, q3, q4, q5⟩ := nq
  refine ⟨by rw [upd_ne (fun q => by have := D.ins; rw [q, eg] at this; cases this)]; exact D.ins, ?_, ⟨_, by rw [upd_ne n3]; exact em, im.tk t⟩, by rw [upd_ne m2]; exact D.fm, D.fo, ⟨vc, by rw [upd_ne k1]; exact ec, ic.tk t⟩, _, upd_same, ?_⟩
  · unfold DA.fp
    simp only [List.nodup_cons, List.mem_cons, List.mem_append, List.not_mem_nil, or_false, not_or]
    refine ⟨⟨n1, n2, n3, n4, Ne.symm q1⟩, ⟨m1, m2, m3, Ne.symm q2⟩, ⟨k1, k2, Ne.symm q3⟩, ⟨j1, Ne.symm q4⟩, List.nodup_append.mpr ⟨j2, by simp, fun x hx y hy => ?_⟩⟩
    rw [List.mem_singleton.mp hy]
    exact fun z => q5 (z ▸ hx)
  · refine FnL.snoc (t _ _ ep) o1 o2 (ik.tk t) (ii.tk t) (us := []) (by rw [upd_ne q4]; exact eq) (by rw [hc]; exact .nil) (ig.keep t fun q hq u h => by rw [upd_ne (ne_mem j1 hq)]; exact h)
def addCl : List Fn → Cl → List Fn
  | [], _ => []
  | [f], c => [{ f with cls := f.cls ++ [c] }]
  | f :: g :: r, c => f :: addCl (g :: r) c
theorem addCl_snoc (f : Fn) (c : Cl) : ∀ fs : List Fn, addCl (fs ++ [f]) c = fs ++ [{ f with cls := f.cls ++ [c] }]
  | [] => rfl
  | [g] => rfl
  | g :: h :: r => by
    have := addCl_snoc f c (h :: r)
    simp only [List.cons_append] at this ⊢
    simp only [addCl, this]
theorem DfAt.addL (D : DfAt C a s H) {fs : List Fn} {f : Fn} {c : Cl} {q : Addr} {qs' : List Addr} {us : List V} {v : V} (hs : s.fs = fs ++ [f]) (hq : a.qs = qs' ++ [q]) (e : H q = some (.lst us)) (i : Is H v (clR c)) : DfAt C a { s with fs := fs ++ [{ f with cls := f.cls ++ [c] }] } (upd H q (.lst (us ++ [v]))) := by
  have t := wr_tk (ys := us ++ [v]) e
  obtain ⟨vm, em, im⟩ := D.mak
  obtain ⟨vc, ec, ic⟩ := D.cn
  obtain ⟨vg, eg, ig⟩ := D.fn
  rw [hs] at ig
  obtain ⟨vs', qs2, p, q', kv, ix, us', rfl, hq2, ih, ep, o1, o2, ik, ii, eq, il⟩ := ig.last
  rw [hq] at hq2
  obtain ⟨rfl, h2⟩ := List.append_inj' hq2 rfl
  cases h2
  rw [eq] at e
  cases e
  have nd := D.nd
  unfold DA.fp at nd
  rw [hq] at nd
  simp only [List.nodup_cons, List.mem_cons, List.mem_append, List.not_mem_nil, or_false, not_or] at nd
  obtain ⟨⟨n1, n2, n3, n4, n5⟩, ⟨m1, m2, m3, m4⟩, ⟨k1, k2, k3⟩, ⟨j1, j3⟩, j2⟩ := nd
  have jn := (List.nodup_append.mp j2).2.2
  refine ⟨by rw [upd_ne (fun z => by have := D.ins; rw [z, eq] at this; cases this)]; exact D.ins, D.nd, ⟨_, by rw [upd_ne n5]; exact em, im.tk t⟩, by rw [upd_ne m4]; exact D.fm, D.fo, ⟨vc, by rw [upd_ne k3]; exact ec, ic.tk t⟩, _, by rw [upd_ne j3]; exact eg, ?_⟩
  rw [hq]
  refine FnL.snoc (f := { f with cls := f.cls ++ [c] }) (t _ _ ep) o1 o2 (ik.tk t) (ii.tk t) upd_same ?_ (ih.keep t fun x hx u h => by rw [upd_ne (jn x hx q (by simp))]; exact h)
  rw [List.map_append]
  exact (il.tk t).append (.cons (i.tk t) .nil)
theorem LnAt.wr {C2 o dx l b : Addr} {n : Int} {i : Nat} {U : List (List Nat)} {xs ys : List V} (L : LnAt C2 o dx l n i U H) (e : H b = some (.lst xs)) (ne : b ≠ l) : LnAt C2 o dx l n i U (upd H b (.lst ys)) :=
  ⟨by rw [upd_ne (fun z => by have := L.ins; rw [z, e] at this; cases this)]; exact L.ins, by rw [upd_ne ne.symm]; exact L.lst, L.len, L.ok⟩
end
def spDInit (C : Addr) : Sp := fun vs H Q _ => ∃ (d dx : Addr), vs = [.ref d, .bl false] ∧ H d = some (.ins C dx []) ∧ ∀ a H', a.d = d → a.dx = dx → a.qs = [] → DfAt C a ⟨[], [], [], []⟩ H' → (∀ b ∈ a.fp, H b = none) → (∀ b u, b ≠ d → H b = some u → H' b = some u) → Q .non H'
theorem ok_Draft_init (T : Txt K mg)  : FnOk P w K mg base CX0 1 T.a_Draft_init T.d_Draft_init ["self", "asks"] (spDInit T.c_Draft) := by
  refine T.F_Draft_init.ok sc_Draft_init (fun vs H Q E h => ?_) (fun cdv A outer s H vs Q E hr h => ?_)
  · obtain ⟨d, dx, rfl, _⟩ := h; rfl
  · obtain ⟨d, dx, rfl, e, q⟩ := h
    refine ⟨_, (pss_cons (ps_fld (pv 0) (pv 1) rfl)
    (pss_cons (ps_fld (pv 0) (pe_lst pa_nil) rfl)
    (pss_cons (ps_fld (pv 0) (pe_lst pa_nil) rfl)
    (pss_cons (ps_fld (pv 0) (pe_lst pa_nil) rfl)
    (pss_cons (ps_fld (pv 0) (pe_lst pa_nil) rfl)
    (pss_one (ps_fld (pv 0) (pe_lst pa_nil) rfl))))))), ?_⟩
    refine ⟨_, rfl, _, rfl, d, T.c_Draft, dx, [], rfl, e, T.cl_Draft, T.no_Draft_asks, by decide, ?_⟩
    have x0 : Lx d H (upd H d (.ins T.c_Draft dx (putF "asks" (.bl false) []))) := fun b u nb h => by rw [upd_ne nb]; exact h
    have e0 : (upd H d (.ins T.c_Draft dx (putF "asks" (.bl false) []))) d = some (.ins T.c_Draft dx [("asks", .bl false)]) := upd_same
    generalize (upd H d (.ins T.c_Draft dx (putF "asks" (.bl false) []))) = H0 at x0 e0 ⊢
    have step : ∀ {H0 : Hp} {fs : List (Str × V)} {p : Addr} {z : Str}, H0 p = none → H0 d = some (.ins T.c_Draft dx fs) → Lx d H0 (upd (upd H0 p (.lst [])) d (.ins T.c_Draft dx (putF z (.ref p) fs))) ∧ (upd (upd H0 p (.lst [])) d (.ins T.c_Draft dx (putF z (.ref p) fs))) p = some (.lst []) ∧ (upd H0 p (.lst [])) d = some (.ins T.c_Draft dx fs) := fun {H0 fs p z} hp hd => by
      have np : p ≠ d := fun z => by rw [z, hd] at hp; cases hp
      refine ⟨fun b u nb h => ?_, ?_, ?_⟩
      · rw [upd_ne nb, upd_ne (ne_of_none h hp)]; exact h
      · rw [upd_ne np]; exact upd_same
      · rw [upd_ne np.symm]; exact hd
    have nf : ∀ {H1 : Hp} {p : Addr} {fs : List (Str × V)}, Lx d H H1 → H1 d = some (.ins T.c_Draft dx fs) → H1 p = none → H p = none ∧ p ≠ d := fun {H1 p fs} x ed hp => by
      have np : p ≠ d := fun z => by rw [z, ed] at hp; cases hp
      refine ⟨?_, np⟩
      cases e : H p with
      | none => rfl
      | some u => have := x _ _ np e; rw [hp] at this; cases this
    refine ⟨by decide, fun p1 hp1 => ?_⟩
    obtain ⟨x1, f1, g1⟩ := step (z := "makers") hp1 e0
    refine ⟨_, rfl, d, T.c_Draft, dx, _, rfl, g1, T.cl_Draft, T.no_Draft_makers, by show 1 < 1000; decide, ?_⟩
    have e1 : (upd (upd H0 p1 (.lst [])) d (.ins T.c_Draft dx (putF "makers" (.ref p1) [("asks", .bl false)]))) d = some (.ins T.c_Draft dx [("asks", .bl false), ("makers", .ref p1)]) := upd_same
    generalize (upd (upd H0 p1 (.lst [])) d (.ins T.c_Draft dx (putF "makers" (.ref p1) [("asks", .bl false)]))) = H1 at x1 f1 e1 ⊢
    refine ⟨by decide, fun p2 hp2 => ?_⟩
    obtain ⟨x2, f2, g2⟩ := step (z := "families") hp2 e1
    refine ⟨_, rfl, d, T.c_Draft, dx, _, rfl, g2, T.cl_Draft, T.no_Draft_families, by show 2 < 1000; decide, ?_⟩
    have e2 : (upd (upd H1 p2 (.lst [])) d (.ins T.c_Draft dx (putF "families" (.ref p2) [("asks", .bl false), ("makers", .ref p1)]))) d = some (.ins T.c_Draft dx [("asks", .bl false), ("makers", .ref p1), ("families", .ref p2)]) := upd_same
    generalize (upd (upd H1 p2 (.lst [])) d (.ins T.c_Draft dx (putF "families" (.ref p2) [("asks", .bl false), ("makers", .ref p1)]))) = H2 at x2 f2 e2 ⊢
    refine ⟨by decide, fun p3 hp3 => ?_⟩
    obtain ⟨x3, f3, g3⟩ := step (z := "constructors") hp3 e2
    refine ⟨_, rfl, d, T.c_Draft, dx, _, rfl, g3, T.cl_Draft, T.no_Draft_constructors, by show 3 < 1000; decide, ?_⟩
    have e3 : (upd (upd H2 p3 (.lst [])) d (.ins T.c_Draft dx (putF "constructors" (.ref p3) [("asks", .bl false), ("makers", .ref p1), ("families", .ref p2)]))) d = some (.ins T.c_Draft dx [("asks", .bl false), ("makers", .ref p1), ("families", .ref p2), ("constructors", .ref p3)]) := upd_same
    generalize (upd (upd H2 p3 (.lst [])) d (.ins T.c_Draft dx (putF "constructors" (.ref p3) [("asks", .bl false), ("makers", .ref p1), ("families", .ref p2)]))) = H3 at x3 f3 e3 ⊢
    refine ⟨by decide, fun p4 hp4 => ?_⟩
    obtain ⟨x4, f4, g4⟩ := step (z := "functions") hp4 e3
    refine ⟨_, rfl, d, T.c_Draft, dx, _, rfl, g4, T.cl_Draft, T.no_Draft_functions, by show 4 < 1000; decide, ?_⟩
    have e4 : (upd (upd H3 p4 (.lst [])) d (.ins T.c_Draft dx (putF "functions" (.ref p4) [("asks", .bl false), ("makers", .ref p1), ("families", .ref p2), ("constructors", .ref p3)]))) d = some (.ins T.c_Draft dx [("asks", .bl false), ("makers", .ref p1), ("families", .ref p2), ("constructors", .ref p3), ("functions", .ref p4)]) := upd_same
    generalize (upd (upd H3 p4 (.lst [])) d (.ins T.c_Draft dx (putF "functions" (.ref p4) [("asks", .bl false), ("makers", .ref p1), ("families", .ref p2), ("constructors", .ref p3)]))) = H4 at x4 f4 e4 ⊢
    refine ⟨by decide, fun p5 hp5 => ?_⟩
    obtain ⟨x5, f5, g5⟩ := step (z := "questions") hp5 e4
    refine ⟨_, rfl, d, T.c_Draft, dx, _, rfl, g5, T.cl_Draft, T.no_Draft_questions, by show 5 < 1000; decide, ?_⟩
    have n1 := nf x0 e0 hp1
    have n2 := nf (x0.trans x1) e1 hp2
    have n3 := nf ((x0.trans x1).trans x2) e2 hp3
    have n4 := nf (((x0.trans x1).trans x2).trans x3) e3 hp4
    have h12 := ne_of_none f1 hp2
    have k13 := x2 _ _ n1.2 f1
    have h13 := ne_of_none k13 hp3
    have h23 := ne_of_none f2 hp3
    have k14 := x3 _ _ n1.2 k13
    have k24 := x3 _ _ n2.2 f2
    have h14 := ne_of_none k14 hp4
    have h24 := ne_of_none k24 hp4
    have h34 := ne_of_none f3 hp4
    refine q ⟨d, dx, p1, p2, p3, p4, p5, []⟩ _ rfl rfl rfl ⟨upd_same, ?_, ⟨[], x5 _ _ n1.2 (x4 _ _ n1.2 k14), .nil⟩, x5 _ _ n2.2 (x4 _ _ n2.2 k24), by simp, ⟨[], x5 _ _ n3.2 (x4 _ _ n3.2 f3), .nil⟩, [], x5 _ _ n4.2 f4, .nil⟩ ?_ ?_
    · simp only [DA.fp, List.nodup_cons, List.mem_cons, List.not_mem_nil, or_false, not_or, not_false_eq_true, List.nodup_nil, and_true]
      exact ⟨⟨h12, h13, h14⟩, ⟨h23, h24⟩, h34⟩
    · intro b hb
      simp only [DA.fp, List.mem_cons, List.not_mem_nil, or_false] at hb
      rcases hb with rfl | rfl | rfl | rfl
      · exact n1.1
      · exact n2.1
      · exact n3.1
      · exact n4.1
    · exact ((((x0.trans x1).trans x2).trans x3).trans x4).trans x5
end
end Kx
namespace Kx
open PySem PySem.Spec PyProof.Rows L2
section
variable {P : Program} {w : World} {K : PySem.W.Frag} {mg : Str → Option Value} {base : Heap}
set_option pp.maxSteps 800
/-! ### lines taken -/
inductive Item where
  | m (x : Str × Nat)
  | f (z : Str)
  | c (x : Cn)
  | h (x : Fn)
  | l (w : Str) (x : Cl)
def stp (s : DS) : Item → DS
  | .m x => { s with ms := s.ms ++ [x] }
  | .f z => { s with fm := s.fm ++ [z] }
  | .c x => { s with cn := s.cn ++ [x] }
  | .h x => { s with fs := s.fs ++ [{ x with cls := [] }] }
  | .l _ x => { s with fs := addCl s.fs x }
def tokI : Item → List (List Nat)
  | .m x => tokM x
  | .f z => tokF z
  | .c x => tokC x
  | .h x => tokH x
  | .l w x => tokL w x
def CnW (w : Str) (ps : List Kd) (md : Kd) : Prop := WkB w ∧ sok w = true ∧ ps.length ≤ 3 ∧ (∀ k ∈ ps, KdW k) ∧ KdW md
def ItOk (s : DS) : Item → Prop
  | .m x => WkB x.1 ∧ sok x.1 = true ∧ x.2 < 100
  | .f z => WkB z ∧ sok z = true
  | .c x => CnW x.w x.ps x.md
  | .h x => CnW x.w x.ps x.md ∧ x.ps ≠ [] ∧ x.falls < 100
  | .l w x => WkB w ∧ sok w = true ∧ x.ps ≠ [] ∧ x.ps.length ≤ 3 ∧ (∀ p ∈ x.ps, TrW 3 p) ∧ TrW 3 x.b ∧ ∃ fs f, s.fs = fs ++ [f] ∧ f.w = w
def DsB (s : DS) : Prop := s.ms.length ≤ 100 ∧ s.fm.length ≤ 100 ∧ s.cn.length ≤ 100 ∧ s.fs.length ≤ 100 ∧ ∀ f ∈ s.fs, f.cls.length ≤ 100
/-- all but the line and the draft's lists stands -/
def Fx (o : Addr) (S : List Addr) (H H' : Hp) : Prop := ∀ b u, b ≠ o → b ∉ S → H b = some u → H' b = some u
theorem Lx.fx {o : Addr} {S : List Addr} {H H' : Hp} (x : Lx o H H') : Fx o S H H' := fun b u n _ h => x b u n h
theorem Fx.trans {o : Addr} {S : List Addr} {H H1 H2 : Hp} (x : Fx o S H H1) (y : Fx o S H1 H2) : Fx o S H H2 := fun b u n k h => y b u n k (x b u n k h)
theorem Fx.wr {o b : Addr} {S : List Addr} {H : Hp} {u : HO} (hb : b ∈ S) : Fx o S H (upd H b u) := fun c v _ k h => by rw [upd_ne (fun z => k (by rw [z]; exact hb))]; exact h
/-- what a taker of one line asks and promises -/
def spIt (CL CD : Addr) (i : Nat) (P : Item → Prop) (T : Item → List (List Nat)) : Sp := fun vs H Q _ => ∃ (a : DA) (s : DS) (it : Item) (o dx l : Addr) (n : Int) (U : List (List Nat)), P it ∧ vs = [.ref a.d, .ref o] ∧ DfAt CD a s H ∧ LnAt CL o dx l n i U H ∧ o ≠ a.d ∧ l ∉ a.fp ∧ U.drop i = T it ∧ ItOk s it ∧ DsB s ∧
  ∀ a' H', a'.d = a.d → DfAt CD a' (stp s it) H' → (a' = a ∨ ∃ q, a' = { a with qs := a.qs ++ [q] } ∧ H q = none) → LnAt CL o dx l n U.length U H' → Fx o a.fp H H' → Q .non H'
theorem drop_end {U X : List (List Nat)} {i : Nat} (h : U.drop i = X) (ne : X ≠ []) : U.length = i + X.length := by
  have := congrArg List.length h
  rw [List.length_drop] at this
  have : 0 < X.length := List.length_pos_iff.mpr ne
  omega
theorem ok_take_maker (T : Txt K mg) (G_Line_take_number : FnOk P w K mg base CX0 2 T.a_Line_take_number T.d_Line_take_number ["self"] (spTakeNum T.c_Line)) (G_Line_take_word : FnOk P w K mg base CX0 2 T.a_Line_take_word T.d_Line_take_word ["self"] (spTakeWord T.c_Line)) : FnOk P w K mg base CX0 3 T.a_take_maker T.d_take_maker ["draft", "line"] (spIt T.c_Line T.c_Draft 1 (fun it => ∃ x, it = .m x) (fun it => (tokI it).drop 1)) := by
  refine T.F_take_maker.ok sc_take_maker (fun vs H Q E h => ?_) (fun cdv A outer s H vs Q E hr h => ?_)
  · obtain ⟨a, s, it, o, dx, l, n, U, ⟨x, rfl⟩, rfl, _⟩ := h; rfl
  · obtain ⟨a, s, it, o, dx, l, n, U, ⟨x, rfl⟩, rfl, D, L, no, nl, hd, ⟨w1, w2, w3⟩, hB, q⟩ := h
    have hr_Line_take_word := hr
    have hr_Line_take_number := hr
    refine ⟨_, (pss_cons (ps_set (i := 2) sc_take_maker.nd rfl (Or.inl rfl) (pe_meth0 (pv 1) T.cl_Line T.me_Line_take_word G_Line_take_word hr_Line_take_word T.b_Line_take_word .nil pass0))
    (pss_one (ps_expr (pe_bm PySem.F.plainAttrs_list PySem.F.slot_list_append PySem.F.type_list_append mt_append (pe_fld (pv 0) rfl) (pa_cons (pe_tup (pa_cons (pv 2) (pa_cons (pe_meth0 (pv 1) T.cl_Line T.me_Line_take_number G_Line_take_number hr_Line_take_number T.b_Line_take_number .nil pass0) pa_nil))) pa_nil))))), ?_⟩
    have hd0 : U.drop 1 = [cs x.1, num x.2] := hd
    have hU := drop_end hd0 (by simp)
    obtain ⟨a1, a2, a3⟩ := get_drop hd0
    obtain ⟨b1, b2, b3⟩ := get_drop a2
    refine ⟨_, rfl, o, dx, _, rfl, L.ins, rfl, o, dx, l, n, 1, U, x.1, rfl, L, a1, w1, fun H1 x1 L1 => ?_⟩
    have D1 := D.lx L x1 no
    obtain ⟨vm, em, im⟩ := D1.mak
    refine ⟨_, rfl, a.d, _, a.dx, _, _, rfl, D1.ins, T.cl_Draft, T.no_Draft_makers, rfl, .inl ⟨rfl, _, SqL.of em⟩, _, rfl, _, rfl, o, dx, _, rfl, L1.ins, rfl, o, dx, l, n, 2, U, x.2, rfl, L1, b1, w3, fun H2 x2 L2 => ⟨(by show 2 ≤ sizeLine; decide), fun p hp => ?_⟩⟩
    have D2 := D1.lx L1 x2 no
    have s3 := same_upd hp (.tup [V.str x.1, V.int x.2])
    have D3 := D2.same s3
    have L3 := L2.same s3
    obtain ⟨vm3, em3, im3⟩ := D3.mak
    have hlen := im3.len
    rw [List.length_map] at hlen
    have i3 : Is (upd H2 p (.tup [V.str x.1, V.int x.2])) (.ref p) (mkP x) := .tup upd_same (.cons (.str _ w2) (.cons (.int _) .nil))
    refine ⟨a.lm, vm3, _, rfl, rfl, em3, small1000 (by have := hB.1; omega), ?_⟩
    refine q a _ rfl (D3.addM em3 i3) (.inl rfl) ?_ (((x1.trans x2).trans (.of s3)).fx.trans (.wr (by simp [DA.fp])))
    have := L3.wr (ys := vm3 ++ [V.ref p]) em3 (fun z => nl (by rw [← z]; simp [DA.fp]))
    rw [show U.length = 2 + 1 by rw [hU]; rfl]
    exact this
theorem ok_take_constructor (T : Txt K mg) (G_take_kind : FnOk P w K mg base CX0 10 T.a_take_kind T.d_take_kind ["line"] (spRKind T.c_Line)) (G_Line_skip : FnOk P w K mg base CX0 2 T.a_Line_skip T.d_Line_skip ["self", "token"] (spSkip T.c_Line)) (G_Line_comes : FnOk P w K mg base CX0 1 T.a_Line_comes T.d_Line_comes ["self", "token"] (spComes T.c_Line)) (G_take_kinds : FnOk P w K mg base CX0 11 T.a_take_kinds T.d_take_kinds ["line"] (spRKinds T.c_Line)) (G_Line_take_word : FnOk P w K mg base CX0 2 T.a_Line_take_word T.d_Line_take_word ["self"] (spTakeWord T.c_Line)) : FnOk P w K mg base CX0 12 T.a_take_constructor T.d_take_constructor ["draft", "line"] (spIt T.c_Line T.c_Draft 1 (fun it => ∃ x, it = .c x) (fun it => (tokI it).drop 1)) := by
  refine T.F_take_constructor.ok sc_take_constructor (fun vs H Q E h => ?_) (fun cdv A outer s H vs Q E hr h => ?_)
  · obtain ⟨a, s, it, o, dx, l, n, U, ⟨x, rfl⟩, rfl, _⟩ := h; rfl
  · obtain ⟨a, s, it, o, dx, l, n, U, ⟨x, rfl⟩, rfl, D, L, no, nl, hd, ⟨w1, w2, w3, w4, w5⟩, hB, q⟩ := h
    have hr_Line_take_word : Room 2 _ := hr.mono (by decide)
    have hr_Line_skip : Room 2 _ := hr.mono (by decide)
    have hr_Line_comes : Room 1 _ := hr.mono (by decide)
    have hr_take_kind : Room 10 _ := hr.mono (by decide)
    have hr_take_kinds : Room 11 _ := hr
    refine ⟨_, (pss_cons (ps_set (i := 2) sc_take_constructor.nd rfl (Or.inl rfl) (pe_meth0 (pv 1) T.cl_Line T.me_Line_take_word G_Line_take_word hr_Line_take_word T.b_Line_take_word .nil pass0))
    (pss_cons (ps_expr (pe_meth (pv 1) T.cl_Line T.me_Line_skip G_Line_skip hr_Line_skip T.b_Line_skip .nil pass0 (pa_cons pe_str pa_nil)))
    (Evl.pss_cut (ps_set (i := 3) sc_take_constructor.nd rfl (Or.inl rfl) (pe_ifExp (pt_val (pe_meth (pv 1) T.cl_Line T.me_Line_comes G_Line_comes hr_Line_comes T.b_Line_comes .nil pass0 (pa_cons pe_str pa_nil))) (pe_tup pa_nil) (pe_call G_take_kinds hr_take_kinds rfl T.m_take_kinds T.F_take_kinds.kp T.b_take_kinds .nil pass0 (pa_cons (pv 1) pa_nil))))
    (pss_cons (ps_expr (pe_meth (pv 1) T.cl_Line T.me_Line_skip G_Line_skip hr_Line_skip T.b_Line_skip .nil pass0 (pa_cons pe_str pa_nil)))
    (pss_cons (ps_asg (pe_call G_take_kind hr_take_kind rfl T.m_take_kind T.F_take_kind.kp T.b_take_kind .nil pass0 (pa_cons (pv 1) pa_nil)) (pg_tup rfl (pgs_cons (pg_name (i := 4) sc_take_constructor.nd rfl (Or.inl rfl)) (pgs_cons (pg_name (i := 5) sc_take_constructor.nd rfl (Or.inl rfl)) pgs_nil))))
    (pss_one (ps_expr (pe_bm PySem.F.plainAttrs_list PySem.F.slot_list_append PySem.F.type_list_append mt_append (pe_fld (pv 0) rfl) (pa_cons (pe_tup (pa_cons (pv 2) (pa_cons (pv 3) (pa_cons (pv 4) (pa_cons (pv 5) pa_nil))))) pa_nil))))))))), ?_⟩
    have hd0 : U.drop 1 = cs x.w :: [58] :: (sepT (x.ps.map tokK) ++ [45, 62] :: tokK x.md) := hd
    have hU := drop_end hd0 (by simp)
    obtain ⟨a1, a2, a3⟩ := get_drop hd0
    obtain ⟨b1, b2, b3⟩ := get_drop a2
    refine ⟨_, rfl, o, dx, _, rfl, L.ins, rfl, o, dx, l, n, 1, U, x.w, rfl, L, a1, w1, fun H1 x1 L1 => ?_⟩
    refine ⟨_, rfl, o, dx, _, rfl, L1.ins, rfl, o, dx, l, n, 2, U, ":", rfl, L1, b1, fun H2 x2 L2 => ?_⟩
    have hl3 : 3 ≤ U.length := by rw [hU]; simp only [List.length_cons, List.length_append]; omega
    have c2 : U.drop 3 = sepT (x.ps.map tokK) ++ [45, 62] :: tokK x.md := b2
    refine ⟨fun σ H4 => ∃ kp : Addr, σ = [some (V.ref a.d), some (.ref o), some (.str x.w), some (.ref kp), none, none] ∧ Is H4 (.ref kp) (.tup (x.ps.map rawK)) ∧ Lx o H H4 ∧ LnAt T.c_Line o dx l n (3 + (sepT (x.ps.map tokK)).length) U H4, ?_, ?_⟩
    · refine ⟨_, rfl, o, dx, _, rfl, L2.ins, rfl, o, dx, l, n, 3, U, "->", rfl, L2, hl3, by decide +kernel, fun H3 s3 => ⟨_, rfl, ?_⟩⟩
      have L3 := L2.same s3
      have x3 : Lx o H H3 := (x1.trans x2).trans (.of s3)
      have hh : U[3]? = (U.drop 3).head? := by rw [List.head?_drop]
      rw [hh, c2]
      by_cases hp : x.ps = []
      · rw [hp]
        rw [show decide (((sepT (([] : List Kd).map tokK)) ++ [45, 62] :: tokK x.md).head? = some (cs "->")) = true from decide_eq_true rfl]
        refine iteT ⟨(by show 0 ≤ sizeLine; decide), fun p hp => ⟨p, rfl, .tup upd_same .nil, x3.trans (.of (same_upd hp _)), L3.same (same_upd hp _)⟩⟩
      · obtain ⟨k0, r0, hk⟩ : ∃ k r, x.ps = k :: r := by cases e : x.ps with | nil => exact absurd e hp | cons k r => exact ⟨k, r, rfl⟩
        have h1 : ((sepT (x.ps.map tokK)) ++ [45, 62] :: tokK x.md).head? = some (cs k0.fam) := by
          rw [hk, sepK_rem]; simp [tokK]
        have nw : cs k0.fam ≠ cs "->" := fun e => by
          have h2 := (w4 k0 (by rw [hk]; simp)).1.2.2.2.1
          have h3 : k0.fam = "->" := cs_inj e
          rw [h3] at h2
          exact absurd h2 (by decide +kernel)
        rw [h1, show decide (some (cs k0.fam) = some (cs "->")) = false from decide_eq_false (fun e => nw (Option.some.inj e))]
        refine iteF ⟨_, rfl, o, dx, l, n, 3, U, [45, 62] :: tokK x.md, x.ps, rfl, L3, hp, w3, w4, c2, by simp, by simp, fun p vs H4 e4 i4 x4 L4 => ⟨p, rfl, .tup e4 i4, x3.trans x4, L4⟩⟩
    rintro σ H4 ⟨kp, rfl, i4, x4, L4⟩
    have d2 := drop_app c2
    obtain ⟨d3, d4, d5⟩ := get_drop d2
    refine ⟨_, rfl, o, dx, _, rfl, L4.ins, rfl, o, dx, l, n, _, U, "->", rfl, L4, d3, fun H5 x5 L5 => ?_⟩
    have d6 : U.drop (3 + (sepT (x.ps.map tokK)).length + 1) = tokK x.md ++ [] := by rw [d4, List.append_nil]
    refine ⟨_, rfl, o, dx, l, n, _, U, [], x.md, rfl, L5, w5, d6, fun v H6 iv x6 L6 => ?_⟩
    obtain ⟨pk, uk, rfl, ek, ik⟩ := iv.tup_inv
    obtain ⟨u0, u1, rfl, k0, k1⟩ := two_inv ik
    cases k0.str_inv
    refine ⟨pk, _, rfl, .inl (.inl ek), rfl, _, _, rfl, _, _, rfl, rfl, ?_⟩
    have x46 := (x4.trans x5).trans x6
    have D6 := D.lx L x46 no
    obtain ⟨vc, ec, ic⟩ := D6.cn
    refine ⟨_, rfl, a.d, _, a.dx, _, _, rfl, D6.ins, T.cl_Draft, T.no_Draft_constructors, rfl, .inl ⟨rfl, _, SqL.of ec⟩, _, rfl, _, rfl, _, rfl, _, rfl, (by show 4 ≤ sizeLine; decide), fun p hp => ?_⟩
    have s7 := same_upd hp (.tup [V.str x.w, .ref kp, V.str x.md.fam, u1])
    have D7 := D6.same s7
    have L7 := L6.same s7
    obtain ⟨vc7, ec7, ic7⟩ := D7.cn
    have hlen := ic7.len
    rw [List.length_map] at hlen
    have ikp := (((i4.tk (L4.tk x5)).tk (L5.tk x6)).same s7)
    have i7 : Is (upd H6 p (.tup [V.str x.w, .ref kp, V.str x.md.fam, u1])) (.ref p) (cnR x) := .tup upd_same (.cons (.str _ w2) (.cons ikp (.cons (k0.same s7) (.cons (k1.same s7) .nil))))
    refine ⟨a.lc, vc7, _, rfl, rfl, ec7, small1000 (by have := hB.2.2.1; omega), ?_⟩
    refine q a _ rfl (D7.addC ec7 i7) (.inl rfl) ?_ ((x46.trans (.of s7)).fx.trans (.wr (by simp [DA.fp])))
    have := L7.wr (ys := vc7 ++ [V.ref p]) ec7 (fun z => nl (by rw [← z]; simp [DA.fp]))
    rw [show U.length = 3 + (sepT (x.ps.map tokK)).length + 1 + (tokK x.md).length by rw [hU]; simp only [List.length_cons, List.length_append]; omega]
    exact this
theorem ok_take_function (T : Txt K mg) (G_take_kind : FnOk P w K mg base CX0 10 T.a_take_kind T.d_take_kind ["line"] (spRKind T.c_Line)) (G_Line_skip : FnOk P w K mg base CX0 2 T.a_Line_skip T.d_Line_skip ["self", "token"] (spSkip T.c_Line)) (G_take_kinds : FnOk P w K mg base CX0 11 T.a_take_kinds T.d_take_kinds ["line"] (spRKinds T.c_Line)) (G_Line_take_number : FnOk P w K mg base CX0 2 T.a_Line_take_number T.d_Line_take_number ["self"] (spTakeNum T.c_Line)) (G_Line_take_word : FnOk P w K mg base CX0 2 T.a_Line_take_word T.d_Line_take_word ["self"] (spTakeWord T.c_Line)) : FnOk P w K mg base CX0 12 T.a_take_function T.d_take_function ["draft", "line"] (spIt T.c_Line T.c_Draft 1 (fun it => ∃ x, it = .h x) (fun it => (tokI it).drop 1)) := by
  refine T.F_take_function.ok sc_take_function (fun vs H Q E h => ?_) (fun cdv A outer s H vs Q E hr h => ?_)
  · obtain ⟨a, s, it, o, dx, l, n, U, ⟨x, rfl⟩, rfl, _⟩ := h; rfl
  · obtain ⟨a, s, it, o, dx, l, n, U, ⟨x, rfl⟩, rfl, D, L, no, nl, hd, ⟨⟨w1, w2, w3, w4, w5⟩, w6, w7⟩, hB, q⟩ := h
    have hr_Line_take_word : Room 2 _ := hr.mono (by decide)
    have hr_Line_take_number : Room 2 _ := hr.mono (by decide)
    have hr_Line_skip : Room 2 _ := hr.mono (by decide)
    have hr_take_kind : Room 10 _ := hr.mono (by decide)
    have hr_take_kinds : Room 11 _ := hr
    refine ⟨_, (pss_cons (ps_set (i := 2) sc_take_function.nd rfl (Or.inl rfl) (pe_meth0 (pv 1) T.cl_Line T.me_Line_take_word G_Line_take_word hr_Line_take_word T.b_Line_take_word .nil pass0))
    (pss_cons (ps_expr (pe_meth (pv 1) T.cl_Line T.me_Line_skip G_Line_skip hr_Line_skip T.b_Line_skip .nil pass0 (pa_cons pe_str pa_nil)))
    (pss_cons (ps_set (i := 3) sc_take_function.nd rfl (Or.inl rfl) (pe_meth0 (pv 1) T.cl_Line T.me_Line_take_number G_Line_take_number hr_Line_take_number T.b_Line_take_number .nil pass0))
    (pss_cons (ps_expr (pe_meth (pv 1) T.cl_Line T.me_Line_skip G_Line_skip hr_Line_skip T.b_Line_skip .nil pass0 (pa_cons pe_str pa_nil)))
    (pss_cons (ps_set (i := 4) sc_take_function.nd rfl (Or.inl rfl) (pe_call G_take_kinds hr_take_kinds rfl T.m_take_kinds T.F_take_kinds.kp T.b_take_kinds .nil pass0 (pa_cons (pv 1) pa_nil)))
    (pss_cons (ps_expr (pe_meth (pv 1) T.cl_Line T.me_Line_skip G_Line_skip hr_Line_skip T.b_Line_skip .nil pass0 (pa_cons pe_str pa_nil)))
    (pss_cons (ps_asg (pe_call G_take_kind hr_take_kind rfl T.m_take_kind T.F_take_kind.kp T.b_take_kind .nil pass0 (pa_cons (pv 1) pa_nil)) (pg_tup rfl (pgs_cons (pg_name (i := 5) sc_take_function.nd rfl (Or.inl rfl)) (pgs_cons (pg_name (i := 6) sc_take_function.nd rfl (Or.inl rfl)) pgs_nil))))
    (pss_one (ps_expr (pe_bm PySem.F.plainAttrs_list PySem.F.slot_list_append PySem.F.type_list_append mt_append (pe_fld (pv 0) rfl) (pa_cons (pe_tup (pa_cons (pv 2) (pa_cons (pv 4) (pa_cons (pv 5) (pa_cons (pv 6) (pa_cons (pv 3) (pa_cons (pe_lst pa_nil) pa_nil))))))) pa_nil))))))))))), ?_⟩
    have hd0 : U.drop 1 = cs x.w :: cs "falls" :: num x.falls :: [58] :: (sepT (x.ps.map tokK) ++ [45, 62] :: tokK x.md) := hd
    have hU := drop_end hd0 (by simp)
    obtain ⟨a1, a2, a3⟩ := get_drop hd0
    obtain ⟨b1, b2, b3⟩ := get_drop a2
    obtain ⟨c1, c2, c3⟩ := get_drop b2
    obtain ⟨e1, e2, e3⟩ := get_drop c2
    refine ⟨_, rfl, o, dx, _, rfl, L.ins, rfl, o, dx, l, n, 1, U, x.w, rfl, L, a1, w1, fun H1 x1 L1 => ?_⟩
    refine ⟨_, rfl, o, dx, _, rfl, L1.ins, rfl, o, dx, l, n, 2, U, "falls", rfl, L1, b1, fun H2 x2 L2 => ?_⟩
    refine ⟨_, rfl, o, dx, _, rfl, L2.ins, rfl, o, dx, l, n, 3, U, x.falls, rfl, L2, c1, w7, fun H3 x3 L3 => ?_⟩
    refine ⟨_, rfl, o, dx, _, rfl, L3.ins, rfl, o, dx, l, n, 4, U, ":", rfl, L3, e1, fun H4 x4 L4 => ?_⟩
    have g2 : U.drop 5 = sepT (x.ps.map tokK) ++ [45, 62] :: tokK x.md := e2
    refine ⟨_, rfl, o, dx, l, n, 5, U, [45, 62] :: tokK x.md, x.ps, rfl, L4, w6, w3, w4, g2, by simp, by simp, fun kp vs H5 e5 i5 x5 L5 => ?_⟩
    have h5 : Is H5 (.ref kp) (.tup (x.ps.map rawK)) := .tup e5 i5
    have d2 := drop_app g2
    obtain ⟨d3, d4, d5⟩ := get_drop d2
    refine ⟨_, rfl, o, dx, _, rfl, L5.ins, rfl, o, dx, l, n, _, U, "->", rfl, L5, d3, fun H6 x6 L6 => ?_⟩
    have d6 : U.drop (5 + (sepT (x.ps.map tokK)).length + 1) = tokK x.md ++ [] := by rw [d4, List.append_nil]
    refine ⟨_, rfl, o, dx, l, n, _, U, [], x.md, rfl, L6, w5, d6, fun v H7 iv x7 L7 => ?_⟩
    obtain ⟨pk, uk, rfl, ek, ik⟩ := iv.tup_inv
    obtain ⟨u0, u1, rfl, k0, k1⟩ := two_inv ik
    have o2 : sok x.md.fam = true := w5.2.1
    cases k0.str_inv
    refine ⟨pk, _, rfl, .inl (.inl ek), rfl, _, _, rfl, _, _, rfl, rfl, ?_⟩
    have x07 := (((((x1.trans x2).trans x3).trans x4).trans x5).trans x6).trans x7
    have D7 := D.lx L x07 no
    obtain ⟨vg, eg, ig⟩ := D7.fn
    refine ⟨_, rfl, a.d, _, a.dx, _, _, rfl, D7.ins, T.cl_Draft, T.no_Draft_functions, rfl, .inl ⟨rfl, _, SqL.of eg⟩, _, rfl, _, rfl, _, rfl, _, rfl, _, rfl, by decide, fun cq hcq => ⟨(by show 6 ≤ sizeLine; decide), fun p hp => ?_⟩⟩
    have s8 := same_upd hcq (.lst [])
    have s9 := same_upd hp (.tup [V.str x.w, .ref kp, V.str x.md.fam, u1, V.int x.falls, .ref cq])
    have D9 := (D7.same s8).same s9
    have L9 := (L7.same s8).same s9
    have s89 := s8.trans s9
    have nq : cq ∉ a.fp := fun z => by
      obtain ⟨xs, e⟩ := D7.lst cq z
      rw [hcq] at e; cases e
    have nqo : cq ≠ o := fun z => by rw [z, L7.ins] at hcq; cases hcq
    have hq0 : H cq = none := by
      cases e : H cq with
      | none => rfl
      | some u => have := x07 _ _ nqo e; rw [hcq] at this; cases this
    have ekp := (((h5.tk (L5.tk x6)).tk (L6.tk x7)).same s89)
    have ek1 := k1.same s89
    have ecq : (upd (upd H7 cq (.lst [])) p (.tup [V.str x.w, .ref kp, V.str x.md.fam, u1, V.int x.falls, .ref cq])) cq = some (.lst []) := s9 _ _ upd_same
    have ep9 : (upd (upd H7 cq (.lst [])) p (.tup [V.str x.w, .ref kp, V.str x.md.fam, u1, V.int x.falls, .ref cq])) p = some (.tup [V.str x.w, .ref kp, V.str x.md.fam, u1, V.int x.falls, .ref cq]) := upd_same
    have xF : Fx o a.fp H (upd (upd H7 cq (.lst [])) p (.tup [V.str x.w, .ref kp, V.str x.md.fam, u1, V.int x.falls, .ref cq])) := (x07.trans (.of s89)).fx
    generalize (upd (upd H7 cq (.lst [])) p (.tup [V.str x.w, .ref kp, V.str x.md.fam, u1, V.int x.falls, .ref cq])) = H9 at D9 L9 ekp ek1 ecq ep9 xF ⊢
    obtain ⟨vg9, eg9, ig9⟩ := D9.fn
    have hlen := ig9.len
    refine ⟨a.lg, vg9, _, rfl, rfl, eg9, small1000 (by have := hB.2.2.2.1; omega), ?_⟩
    refine q { a with qs := a.qs ++ [cq] } _ rfl (D9.addG (f := { x with cls := [] }) eg9 ep9 w2 o2 ekp ek1 ecq rfl nq) (.inr ⟨cq, rfl, hq0⟩) ?_ (xF.trans (.wr (by simp [DA.fp])))
    have := L9.wr (ys := vg9 ++ [V.ref p]) eg9 (fun z => nl (by rw [← z]; simp [DA.fp]))
    rw [show U.length = 5 + (sepT (x.ps.map tokK)).length + 1 + (tokK x.md).length by rw [hU]; simp only [List.length_cons, List.length_append]; omega]
    exact this
theorem atI_end {vs : List V} {v : V} : atI (vs ++ [v]) (-1) = some v := atI_last vs v
theorem ok_take_clause (T : Txt K mg) (G_Line_take_tree : FnOk P w K mg base CX0 9 T.a_Line_take_tree T.d_Line_take_tree ["self"] (spRTree T.c_Line 3)) (G_Line_skip : FnOk P w K mg base CX0 2 T.a_Line_skip T.d_Line_skip ["self", "token"] (spSkip T.c_Line)) (G_Line_take_trees : FnOk P w K mg base CX0 10 T.a_Line_take_trees T.d_Line_take_trees ["self"] (spRTrees T.c_Line 3)) (G_Line_take_word : FnOk P w K mg base CX0 2 T.a_Line_take_word T.d_Line_take_word ["self"] (spTakeWord T.c_Line)) : FnOk P w K mg base CX0 11 T.a_take_clause T.d_take_clause ["draft", "line"] (spIt T.c_Line T.c_Draft 0 (fun it => ∃ w x, it = .l w x) tokI) := by
  refine T.F_take_clause.ok sc_take_clause (fun vs H Q E h => ?_) (fun cdv A outer s H vs Q E hr h => ?_)
  · obtain ⟨a, s, it, o, dx, l, n, U, ⟨w, x, rfl⟩, rfl, _⟩ := h; rfl
  · obtain ⟨a, s, it, o, dx, l, n, U, ⟨w, x, rfl⟩, rfl, D, L, no, nl, hd, ⟨w1, w2, w3, w4, w5, w6, fs0, f0, w7, w8⟩, hB, q⟩ := h
    have hr_Line_take_word : Room 2 _ := hr.mono (by decide)
    have hr_Line_skip : Room 2 _ := hr.mono (by decide)
    have hr_Line_take_tree : Room 9 _ := hr.mono (by decide)
    have hr_Line_take_trees : Room 10 _ := hr
    refine ⟨_, (pss_cons (ps_set (i := 2) sc_take_clause.nd rfl (Or.inl rfl) (pe_meth0 (pv 1) T.cl_Line T.me_Line_take_word G_Line_take_word hr_Line_take_word T.b_Line_take_word .nil pass0))
    (pss_cons (ps_if (PW.pt (pw_or (pt_not (pt_truth (pe_fld (pv 0) rfl) (by intro _; rfl))) (pw_or1 (pt_cmpR op_ne (pe_ix ix_tup (pe_ix ix_list (pe_fld (pv 0) rfl) (pe_un un_neg pe_int) (fun _ _ => rfl)) pe_int (fun _ _ => rfl)) (pv 2) (nomark _))))) (pss_one ps_never) pss_nil)
    (pss_cons (ps_set (i := 3) sc_take_clause.nd rfl (Or.inl rfl) (pe_meth0 (pv 1) T.cl_Line T.me_Line_take_trees G_Line_take_trees hr_Line_take_trees T.b_Line_take_trees .nil pass0))
    (pss_cons (ps_expr (pe_meth (pv 1) T.cl_Line T.me_Line_skip G_Line_skip hr_Line_skip T.b_Line_skip .nil pass0 (pa_cons pe_str pa_nil)))
    (pss_cons (ps_set (i := 4) sc_take_clause.nd rfl (Or.inl rfl) (pe_ix ix_tup (pe_ix ix_list (pe_fld (pv 0) rfl) (pe_un un_neg pe_int) (fun _ _ => rfl)) pe_int (fun _ _ => rfl)))
    (pss_one (ps_expr (pe_bm PySem.F.plainAttrs_list PySem.F.slot_list_append PySem.F.type_list_append mt_append (pv 4) (pa_cons (pe_tup (pa_cons (pv 3) (pa_cons (pe_meth0 (pv 1) T.cl_Line T.me_Line_take_tree G_Line_take_tree hr_Line_take_tree T.b_Line_take_tree .nil pass0) pa_nil))) pa_nil))))))))), ?_⟩
    have hd0 : U.drop 0 = cs w :: ([40] :: (sepT (x.ps.map tokT) ++ [41] :: ([61] :: tokT x.b))) := hd
    have hU := drop_end hd0 (by simp)
    obtain ⟨a1, a2, a3⟩ := get_drop hd0
    refine ⟨_, rfl, o, dx, _, rfl, L.ins, rfl, o, dx, l, n, 0, U, w, rfl, L, a1, w1, fun H1 x1 L1 => ?_⟩
    have D1 := D.lx L x1 no
    obtain ⟨vg, eg, ig⟩ := D1.fn
    rw [w7] at ig
    obtain ⟨vs', qs', pf, q0, kv, ix, us, hvg, hqs, ih, epf, o1, o2, ikv, iix, eq0, iq0⟩ := ig.last
    rw [w8] at epf
    refine ⟨_, rfl, a.d, _, a.dx, _, _, rfl, D1.ins, T.cl_Draft, T.no_Draft_functions, rfl, true, .inl ⟨vg, SqL.of eg, by rw [hvg]; simp⟩, iteF ?_⟩
    refine ⟨_, rfl, a.d, _, a.dx, _, _, rfl, D1.ins, T.cl_Draft, T.no_Draft_functions, rfl, _, rfl, a.lg, vg, _, _, rfl, rfl, SqL.of eg, by rw [hvg]; exact atI_end, pf, _, _, _, rfl, rfl, .inl (.inl epf), atI_nat (j := 0) rfl, _, rfl, rfl, _, rfl, ?_⟩
    rw [show (!decide (V.str w = V.str w)) = false by simp]
    refine iteF ?_
    refine ⟨_, rfl, o, dx, _, rfl, L1.ins, rfl, o, dx, l, n, 1, U, [61] :: tokT x.b, x.ps, rfl, L1, w3, w4, w5, a2, fun pp vp H2 e2 i2 x2 L2 => ?_⟩
    have b2 : U.drop (1 + (2 + (sepT (x.ps.map tokT)).length)) = [61] :: tokT x.b := by
      have h1 : U.drop 1 = ([40] :: (sepT (x.ps.map tokT) ++ [[41]])) ++ ([61] :: tokT x.b) := by rw [show U.drop 1 = U.drop (0 + 1) from rfl, a2]; simp
      have := drop_app h1
      rw [← this]
      congr 1
      simp only [List.length_cons, List.length_append, List.length_nil]; omega
    obtain ⟨c1, c2, c3⟩ := get_drop b2
    refine ⟨_, rfl, o, dx, _, rfl, L2.ins, rfl, o, dx, l, n, _, U, "=", rfl, L2, c1, fun H3 x3 L3 => ?_⟩
    have x13 := x2.trans x3
    have D3 := D1.lx L1 x13 no
    have tk13 := L1.tk x13
    obtain ⟨vg3, eg3, ig3⟩ := D3.fn
    rw [w7] at ig3
    obtain ⟨vs3, qs3, pf3, q3, kv3, ix3, us3, hvg3, hqs3, ih3, epf3, _, _, _, _, eq3, iq3⟩ := ig3.last
    refine ⟨_, rfl, a.d, _, a.dx, _, _, rfl, D3.ins, T.cl_Draft, T.no_Draft_functions, rfl, _, rfl, a.lg, vg3, _, _, rfl, rfl, SqL.of eg3, by rw [hvg3]; exact atI_end, pf3, _, _, _, rfl, rfl, .inl (.inl epf3), atI_nat (j := 5) rfl, ?_⟩
    refine ⟨_, rfl, .inl ⟨rfl, _, SqL.of eq3⟩, _, rfl, _, rfl, o, dx, _, rfl, L3.ins, rfl, o, dx, l, n, _, U, [], x.b, rfl, L3, w6, by rw [c2, List.append_nil], by simp, fun vb H4 ib x4 L4 => ⟨(by show 2 ≤ sizeLine; decide), fun p hp => ?_⟩⟩
    have x04 := (x1.trans x13).trans x4
    have D4 := D.lx L x04 no
    have s5 := same_upd hp (.tup [V.ref pp, vb])
    have D5 := D4.same s5
    have L5 := L4.same s5
    have q3fp : q3 ∈ a.fp := by rw [show a.fp = a.lm :: a.lf :: a.lc :: a.lg :: a.qs from rfl, hqs3]; simp
    have nq3o : q3 ≠ o := fun z => by rw [z, L3.ins] at eq3; cases eq3
    have eq5 := s5 _ _ (x4 _ _ nq3o eq3)
    have iq5 := (iq3.tk (L3.tk x4)).same s5
    have hlen := iq5.len
    rw [List.length_map] at hlen
    have lcl : f0.cls.length ≤ 100 := hB.2.2.2.2 f0 (by rw [w7]; simp)
    have ipp : Is (upd H4 p (.tup [V.ref pp, vb])) (.ref pp) (.tup (x.ps.map raw)) := (((Is.tup e2 i2).tk (L2.tk x3)).tk (L3.tk x4)).same s5
    have i5 : Is (upd H4 p (.tup [V.ref pp, vb])) (.ref p) (clR x) := .tup upd_same (.cons ipp (.cons (ib.same s5) .nil))
    refine ⟨q3, us3, _, rfl, rfl, eq5, small1000 (by omega), ?_⟩
    have fin := q a (upd (upd H4 p (.tup [V.ref pp, vb])) q3 (.lst (us3 ++ [.ref p]))) rfl ?_ (.inl rfl) ?_ ((x04.trans (.of s5)).fx.trans (.wr q3fp))
    · exact fin
    · have := D5.addL (c := x) w7 hqs3 eq5 i5
      show DfAt T.c_Draft a { s with fs := addCl s.fs x } _
      rw [w7, addCl_snoc]
      exact this
    · have := L5.wr (ys := us3 ++ [V.ref p]) eq5 (fun z => nl (by rw [← z]; exact q3fp))
      rw [show U.length = 1 + (2 + (sepT (x.ps.map tokT)).length) + 1 + (tokT x.b).length by rw [hU]; simp only [List.length_cons, List.length_append]; omega]
      exact this
end
end Kx
namespace Kx
open PySem PySem.Spec PyProof.Rows L2
section
variable {P : Program} {w : World} {K : PySem.W.Frag} {mg : Str → Option Value} {base : Heap}
set_option pp.maxSteps 800
theorem wk_ne {z : Str} (h : WkB z) : cs z ≠ [40] := fun e => by
  have h4 := h.2.2.2.1
  have : z = mkS [40] := by rw [← mk_cs z, e]
  rw [this] at h4
  exact absurd h4 (by decide +kernel)
theorem tok1_word {s : DS} {it : Item} (h : ItOk s it) : (∃ w x, it = .l w x) ∨ (∀ w x, it ≠ .l w x) ∧ ∃ z, (tokI it)[1]? = some (cs z) ∧ WkB z := by
  cases it with
  | m x => exact .inr ⟨by simp, x.1, rfl, h.1⟩
  | f z => exact .inr ⟨by simp, z, rfl, h.1⟩
  | c x => exact .inr ⟨by simp, x.w, rfl, h.1⟩
  | h x => exact .inr ⟨by simp, x.w, rfl, h.1.1⟩
  | l w x => exact .inl ⟨w, x, rfl⟩
theorem tok_two {s : DS} {it : Item} (h : ItOk s it) : 1 ≤ (tokI it).length := by
  cases it <;> simp [tokI, tokM, tokF, tokC, tokH, tokL]
theorem ok_take_line (T : Txt K mg) (G_take_maker : FnOk P w K mg base CX0 3 T.a_take_maker T.d_take_maker ["draft", "line"] (spIt T.c_Line T.c_Draft 1 (fun it => ∃ x, it = .m x) (fun it => (tokI it).drop 1))) (G_Line_take_word : FnOk P w K mg base CX0 2 T.a_Line_take_word T.d_Line_take_word ["self"] (spTakeWord T.c_Line)) (G_take_constructor : FnOk P w K mg base CX0 12 T.a_take_constructor T.d_take_constructor ["draft", "line"] (spIt T.c_Line T.c_Draft 1 (fun it => ∃ x, it = .c x) (fun it => (tokI it).drop 1))) (G_take_function : FnOk P w K mg base CX0 12 T.a_take_function T.d_take_function ["draft", "line"] (spIt T.c_Line T.c_Draft 1 (fun it => ∃ x, it = .h x) (fun it => (tokI it).drop 1))) (G_Line_take : FnOk P w K mg base CX0 1 T.a_Line_take T.d_Line_take ["self"] (spTake T.c_Line)) (G_take_clause : FnOk P w K mg base CX0 11 T.a_take_clause T.d_take_clause ["draft", "line"] (spIt T.c_Line T.c_Draft 0 (fun it => ∃ w x, it = .l w x) tokI)) : FnOk P w K mg base CX0 13 T.a_take_line T.d_take_line ["draft", "line"] (spIt T.c_Line T.c_Draft 0 (fun _ => True) tokI) := by
  refine T.F_take_line.ok sc_take_line (fun vs H Q E h => ?_) (fun cdv A outer s H vs Q E hr h => ?_)
  · obtain ⟨a, s, it, o, dx, l, n, U, _, rfl, _⟩ := h; rfl
  · obtain ⟨a, s, it, o, dx, l, n, U, _, rfl, D, L, no, nl, hd, hI, hB, q⟩ := h
    have hr_Line_take_word : Room 2 _ := hr.mono (by decide)
    have hr_Line_take : Room 1 _ := hr.mono (by decide)
    have hr_take_maker : Room 3 _ := hr.mono (by decide)
    have hr_take_constructor : Room 12 _ := hr
    have hr_take_function : Room 12 _ := hr
    have hr_take_clause : Room 11 _ := hr.mono (by decide)
    refine ⟨_, (pss_cons (ps_if (pt_cmpR (op_eqD (u64 hr)) (pe_slice sl_list (pe_fld (pv 1) rfl) (po_some pe_int) (po_some pe_int)) (pe_lst (pa_cons pe_str pa_nil)) (nomark _)) (pss_cons (ps_expr (pe_call G_take_clause hr_take_clause rfl T.m_take_clause T.F_take_clause.kp T.b_take_clause .nil pass0 (pa_cons (pv 0) (pa_cons (pv 1) pa_nil))))
    (pss_one ps_retN)) pss_nil)
    (pss_cons (ps_set (i := 2) sc_take_line.nd rfl (Or.inl rfl) (pe_meth0 (pv 1) T.cl_Line T.me_Line_take G_Line_take hr_Line_take T.b_Line_take .nil pass0))
    (pss_one (ps_if (pt_cmpR op_eq (pv 2) pe_str (nomark _)) (pss_one (ps_expr (pe_call G_take_maker hr_take_maker rfl T.m_take_maker T.F_take_maker.kp T.b_take_maker .nil pass0 (pa_cons (pv 0) (pa_cons (pv 1) pa_nil))))) (pss_one (ps_if (pt_cmpR op_eq (pv 2) pe_str (nomark _)) (pss_one (ps_expr (pe_bm PySem.F.plainAttrs_list PySem.F.slot_list_append PySem.F.type_list_append mt_append (pe_fld (pv 0) rfl) (pa_cons (pe_meth0 (pv 1) T.cl_Line T.me_Line_take_word G_Line_take_word hr_Line_take_word T.b_Line_take_word .nil pass0) pa_nil)))) (pss_one (ps_if (pt_cmpR op_eq (pv 2) pe_str (nomark _)) (pss_one (ps_expr (pe_call G_take_constructor hr_take_constructor rfl T.m_take_constructor T.F_take_constructor.kp T.b_take_constructor .nil pass0 (pa_cons (pv 0) (pa_cons (pv 1) pa_nil))))) (pss_one (ps_if (pt_cmpR op_eq (pv 2) pe_str (nomark _)) (pss_one (ps_expr (pe_call G_take_function hr_take_function rfl T.m_take_function T.F_take_function.kp T.b_take_function .nil pass0 (pa_cons (pv 0) (pa_cons (pv 1) pa_nil))))) (pss_one (ps_if (PW.pt (pw_and (pt_cmpR op_eq (pv 2) pe_str (nomark _)) (pw_and1 (pt_truth (pe_fld (pv 0) rfl) (by intro _; rfl))))) (pss_one ps_never) (pss_one ps_never))))))))))))), ?_⟩
    have hU : U = tokI it := hd
    subst hU
    have h1 := tok_two hI
    refine ⟨_, rfl, o, _, dx, _, _, rfl, L.ins, T.cl_Line, T.no_Line_tokens, rfl, _, rfl, _, rfl, l, _, rfl, SqL.of L.lst, fun p hp => ?_⟩
    have s1 := same_upd hp (.lst (cutV ((tokI it).map SV) (some 1) (some 2)))
    refine ⟨(by show 1 ≤ sizeLine; decide), fun p2 hp2 => ?_⟩
    have s2 := same_upd hp2 (.lst [V.str "("])
    have ecut : cutV ((tokI it).map SV) (some 1) (some 2) = (match (tokI it)[1]? with | some t => [SV t] | none => []) := cut_one (U := tokI it) (i := 1) h1
    have e1 := s2 _ _ (show upd H p (.lst (cutV ((tokI it).map SV) (some 1) (some 2))) p = some (.lst (match (tokI it)[1]? with | some t => [SV t] | none => [])) by rw [upd_same, ecut])
    have s12 := s1.trans s2
    have dz : Dp K (upd (upd H p (.lst (cutV ((tokI it).map SV) (some 1) (some 2)))) p2 (.lst [V.str "("])) (.ref p2) (.list [.str "("]) := .lst (SqL.of upd_same) (.cons (.str _) .nil)
    generalize upd (upd H p (.lst (cutV ((tokI it).map SV) (some 1) (some 2)))) p2 (.lst [V.str "("]) = H2 at *
    have L2 := L.same s12
    have D2 := D.same s12
    have key : ∀ {t : List Nat}, (tokI it)[1]? = some t → ∃ dd ee, Dp K H2 (.ref p) dd ∧ Dp K H2 (.ref p2) ee ∧ SeqAt.shaped dd = true ∧ SeqAt.shaped ee = true ∧ dd.eqv ee = decide (t = [40]) := fun {t} ht => by
      rw [ht] at e1
      refine ⟨.list [.str (mkS t)], .list [.str "("], .lst (SqL.of e1) (.cons (.str _) .nil), dz, one_shaped (sok_ok (L.ok t (List.mem_of_getElem? ht))), one_shaped (by decide +kernel), ?_⟩
      · rw [Bool.eq_iff_iff]
        simp only [PyData.eqv, PyData.eqvAll, Bool.and_true, beq_iff_eq, decide_eq_true_eq]
        constructor
        · intro h; have := congrArg cs h; rw [cs_mk] at this; exact this
        · intro h; rw [h]; rfl
    have fin : ∀ a' H', a'.d = a.d → DfAt T.c_Draft a' (stp s it) H' → (a' = a ∨ ∃ q, a' = { a with qs := a.qs ++ [q] } ∧ H2 q = none) → LnAt T.c_Line o dx l n (tokI it).length (tokI it) H' → Fx o a.fp H2 H' → Q .non H' := fun a' H' e1 e2 e3 e4 e5 => q a' H' e1 e2 (e3.imp id fun ⟨q, h1, h2⟩ => ⟨q, h1, s12.free h2⟩) e4 ((Lx.of s12).fx.trans e5)
    rcases tok1_word hI with ⟨w, x, rfl⟩ | ⟨nL, z, hz, wz⟩
    · have ht : (tokI (.l w x))[1]? = some [40] := rfl
      obtain ⟨dd, ee, k1, k2, k3, k4, k5⟩ := key ht
      refine ⟨dd, ee, k1, k2, k3, k4, _, rfl, ?_⟩
      rw [k5, decide_eq_true rfl]
      exact iteT ⟨_, rfl, _, rfl, a, s, .l w x, o, dx, l, n, _, ⟨w, x, rfl⟩, rfl, D2, L2, no, nl, rfl, hI, hB, fin⟩
    · obtain ⟨dd, ee, k1, k2, k3, k4, k5⟩ := key hz
      refine ⟨dd, ee, k1, k2, k3, k4, _, rfl, ?_⟩
      rw [k5, decide_eq_false (wk_ne wz)]
      obtain ⟨t0, ht0⟩ : ∃ t, (tokI it)[0]? = some t := ⟨_, List.getElem?_eq_getElem (by omega)⟩
      refine iteF ⟨_, rfl, o, dx, _, rfl, L2.ins, rfl, o, dx, l, n, 0, tokI it, t0, rfl, L2, ht0, fun H3 x3 L3 => ?_⟩
      have D3 := D2.lx L2 x3 no
      have fin3 : ∀ a' H', a'.d = a.d → DfAt T.c_Draft a' (stp s it) H' → (a' = a ∨ ∃ q, a' = { a with qs := a.qs ++ [q] } ∧ H3 q = none) → LnAt T.c_Line o dx l n (tokI it).length (tokI it) H' → Fx o a.fp H3 H' → Q .non H' := fun a' H' e1 e2 e3 e4 e5 => fin a' H' e1 e2 (e3.imp id fun ⟨q, h1, h2⟩ => ⟨q, h1, by
        cases e : H2 q with
        | none => rfl
        | some u =>
          by_cases hqo : q = o
          · rw [hqo, L3.ins] at h2; cases h2
          · have := x3 _ _ hqo e; rw [h2] at this; cases this⟩) e4 (x3.fx.trans e5)
      cases it with
      | l w x => exact absurd rfl (nL w x)
      | m x =>
        cases ht0
        refine ⟨_, rfl, rfl, _, rfl, ?_⟩
        rw [sv_lit, show decide (cs "maker" = cs "maker") = true from decide_eq_true rfl]
        exact iteT ⟨_, rfl, _, rfl, a, s, .m x, o, dx, l, n, _, ⟨x, rfl⟩, rfl, D3, L3, no, nl, rfl, hI, hB, fin3⟩
      | f z =>
        cases ht0
        refine ⟨_, rfl, rfl, _, rfl, ?_⟩
        rw [sv_lit, show decide (cs "family" = cs "maker") = false by decide]
        refine iteF ⟨_, rfl, rfl, _, rfl, ?_⟩
        rw [sv_lit, show decide (cs "family" = cs "family") = true from decide_eq_true rfl]
        refine iteT ⟨_, rfl, a.d, _, a.dx, _, _, rfl, D3.ins, T.cl_Draft, T.no_Draft_families, rfl, .inl ⟨rfl, _, SqL.of D3.fm⟩, _, rfl, o, dx, _, rfl, L3.ins, rfl, o, dx, l, n, 1, _, z, rfl, L3, rfl, hI.1, fun H4 x4 L4 => ?_⟩
        have D4 := D3.lx L3 x4 no
        refine ⟨a.lf, _, _, rfl, rfl, D4.fm, by rw [List.length_map]; exact small1000 (by have := hB.2.1; omega), ?_⟩
        exact fin3 a _ rfl (D4.addF hI.2) (.inl rfl) (L4.wr D4.fm (fun z => nl (by rw [← z]; simp [DA.fp]))) (x4.fx.trans (.wr (by simp [DA.fp])))
      | c x =>
        cases ht0
        refine ⟨_, rfl, rfl, _, rfl, ?_⟩
        rw [sv_lit, show decide (cs "con" = cs "maker") = false by decide]
        refine iteF ⟨_, rfl, rfl, _, rfl, ?_⟩
        rw [sv_lit, show decide (cs "con" = cs "family") = false by decide]
        refine iteF ⟨_, rfl, rfl, _, rfl, ?_⟩
        rw [sv_lit, show decide (cs "con" = cs "con") = true from decide_eq_true rfl]
        exact iteT ⟨_, rfl, _, rfl, a, s, .c x, o, dx, l, n, _, ⟨x, rfl⟩, rfl, D3, L3, no, nl, rfl, hI, hB, fin3⟩
      | h x =>
        cases ht0
        refine ⟨_, rfl, rfl, _, rfl, ?_⟩
        rw [sv_lit, show decide (cs "fun" = cs "maker") = false by decide]
        refine iteF ⟨_, rfl, rfl, _, rfl, ?_⟩
        rw [sv_lit, show decide (cs "fun" = cs "family") = false by decide]
        refine iteF ⟨_, rfl, rfl, _, rfl, ?_⟩
        rw [sv_lit, show decide (cs "fun" = cs "con") = false by decide]
        refine iteF ⟨_, rfl, rfl, _, rfl, ?_⟩
        rw [sv_lit, show decide (cs "fun" = cs "fun") = true from decide_eq_true rfl]
        exact iteT ⟨_, rfl, _, rfl, a, s, .h x, o, dx, l, n, _, ⟨x, rfl⟩, rfl, D3, L3, no, nl, rfl, hI, hB, fin3⟩
end
end Kx
namespace Kx
open PySem PySem.Spec PyProof.Rows L2
section
variable {P : Program} {w : World} {K : PySem.W.Frag} {mg : Str → Option Value} {base : Heap}
set_option pp.maxSteps 800
/-! ### all lines -/
def lineI : Item → List Nat
  | .m x => lineM x
  | .f z => lineF z
  | .c x => lineC x
  | .h x => lineH x
  | .l w x => lineL w x
def ItsOk : DS → List Item → Prop
  | _, [] => True
  | s, it :: r => ItOk s it ∧ DsB s ∧ ItsOk (stp s it) r
theorem ItsOk.at : ∀ {its : List Item} {s : DS}, ItsOk s its → ∀ {i : Nat} {it : Item}, its[i]? = some it → ItOk ((its.take i).foldl stp s) it ∧ DsB ((its.take i).foldl stp s)
  | a :: r, s, h, 0, it, e => by cases e; exact ⟨h.1, h.2.1⟩
  | a :: r, s, h, i + 1, it, e => by
    have := ItsOk.at h.2.2 (i := i) (by simpa using e)
    simpa using this
def s0 : DS := ⟨[], [], [], []⟩
theorem ends_nl {l : List Nat} : Txt.endswith (mkS (l ++ [10])) "\n" = true := by
  unfold Txt.endswith
  rw [StrLaws.subAt_eq, mk_len, show (mkS (l ++ [10])).cps.toList = l ++ [10] from cs_mk _, show ("\n" : Str).length = 1 from rfl, show ("\n" : Str).cps.toList = [10] from rfl]
  simp
theorem full_end (ls : List (List Nat)) (h : ls ≠ []) : ∃ l, fullT ls = l ++ [10] := by
  obtain ⟨a, b, rfl⟩ : ∃ a b, ls = a ++ [b] := ⟨_, _, (List.dropLast_concat_getLast h).symm⟩
  exact ⟨fullT a ++ b, by rw [full_app]; simp [fullT]⟩
theorem ItsOk.mid : ∀ {a : List Item} {s : DS} {it : Item} {b : List Item}, ItsOk s (a ++ it :: b) → ItOk (a.foldl stp s) it ∧ DsB (a.foldl stp s)
  | [], _, _, _, h => ⟨h.1, h.2.1⟩
  | x :: a, s, it, b, h => ItsOk.mid (a := a) (s := stp s x) h.2.2
/-- a row of a text: signs, a comment, the tokens, what they tell -/
structure Rw where
  x : List Nat
  cm : List Nat
  U : List (List Nat)
  it : Option Item
def Rw.full (r : Rw) : List Nat := r.x ++ r.cm
structure RwOk (r : Rw) : Prop where
  tk : Toks r.x r.U
  ok : Ok r.x
  cm : Cm r.cm
  len : r.full.length ≤ 6000
  op : opn r.U ≤ 40
  iu : r.U = match r.it with | none => [] | some it => tokI it
theorem RwOk.okr {r : Rw} (h : RwOk r) : OkR r.full := fun c hc => (List.mem_append.mp hc).elim (fun h1 => (h.ok c h1).r) (h.cm.1 c)
def itsR (rs : List Rw) : List Item := rs.filterMap Rw.it
theorem itsR_at {rs : List Rw} {i : Nat} {r : Rw} (h : rs[i]? = some r) : itsR (rs.take (i + 1)) = itsR (rs.take i) ++ r.it.toList ∧ ∃ b, itsR rs = itsR (rs.take i) ++ (r.it.toList ++ b) := by
  unfold itsR
  have e : rs.take (i + 1) = rs.take i ++ [r] := by rw [List.take_add_one, h]; rfl
  constructor
  · rw [e, List.filterMap_append]
    congr 1
  · refine ⟨(rs.drop (i + 1)).filterMap Rw.it, ?_⟩
    have h2 : rs = rs.take i ++ (r :: rs.drop (i + 1)) := by
      have hi := (List.getElem?_eq_some_iff.mp h)
      obtain ⟨hl, he⟩ := hi
      rw [← he, ← List.drop_eq_getElem_cons hl, List.take_append_drop]
    conv => lhs; rw [h2, List.filterMap_append, List.filterMap_cons]
    cases r.it <;> rfl
def spDrafted (CD : Addr) : Sp := fun vs H Q _ => ∃ rs : List Rw, vs = [SV (fullT (rs.map Rw.full)), .bl false] ∧ rs ≠ [] ∧ rs.length ≤ 1000 ∧ (fullT (rs.map Rw.full)).length ≤ 6000 ∧ (∀ r ∈ rs, RwOk r) ∧ ItsOk s0 (itsR rs) ∧
  ∀ a H', DfAt CD a ((itsR rs).foldl stp s0) H' → Same H H' → Q (.ref a.d) H'
theorem ok_drafted (T : Txt K mg) (G_Line_finish : FnOk P w K mg base CX0 1 T.a_Line_finish T.d_Line_finish ["self"] (spFinish T.c_Line)) (G_take_line : FnOk P w K mg base CX0 13 T.a_take_line T.d_take_line ["draft", "line"] (spIt T.c_Line T.c_Draft 0 (fun _ => True) tokI)) (G_Line_init : FnOk P w K mg base CX0 3 T.a_Line_init T.d_Line_init ["self", "row", "number"] (spLInit T.c_Line)) (G_Draft_init : FnOk P w K mg base CX0 1 T.a_Draft_init T.d_Draft_init ["self", "asks"] (spDInit T.c_Draft)) (G_rows_of : FnOk P w K mg base CX0 2 T.a_rows_of T.d_rows_of ["text"] spRowsOf) : FnOk P w K mg base CX0 14 T.a_drafted T.d_drafted ["text", "asks"] (spDrafted T.c_Draft) := by
  refine T.F_drafted.ok sc_drafted (fun vs H Q E h => ?_) (fun cdv A outer s H vs Q E hr h => ?_)
  · obtain ⟨rs, rfl, _⟩ := h; rfl
  · obtain ⟨rs, rfl, hne, h100, h6, hln, hok, q⟩ := h
    have hr_Line_finish : Room 1 _ := hr.mono (by decide)
    have hr_take_line : Room 13 _ := hr
    have hr_Line_init : Room 4 _ := hr.mono (by decide)
    have hr_Draft_init : Room 2 _ := hr.mono (by decide)
    have hr_rows_of : Room 2 _ := hr.mono (by decide)
    refine ⟨_, (pss_cons (ps_set (i := 2) sc_drafted.nd rfl (Or.inl rfl) (pe_call G_rows_of hr_rows_of rfl T.m_rows_of T.F_rows_of.kp T.b_rows_of .nil pass0 (pa_cons (pv 0) pa_nil)))
    (pss_cons (ps_set (i := 3) sc_drafted.nd rfl (Or.inl rfl) (pe_make T.mk_Draft G_Draft_init hr_Draft_init rfl T.mg_Draft T.b_Draft_init .nil pass0 (pa_cons (pv 1) pa_nil)))
    (pss_cons (ps_for PassesOwn.never rfl (pi_enumS (by rfl) T.z_enumerate (pa_cons (pv 2) pa_nil) (pk_cons pe_int pk_nil)) (pg_tup rfl (pgs_cons (pg_name (i := 4) sc_drafted.nd rfl (Or.inl rfl)) (pgs_cons (pg_name (i := 5) sc_drafted.nd rfl (Or.inl rfl)) pgs_nil)))
    (pss_cons (ps_set (i := 6) sc_drafted.nd rfl (Or.inl rfl) (pe_make T.mk_Line G_Line_init hr_Line_init rfl T.mg_Line T.b_Line_init .nil pass0 (pa_cons (pv 5) (pa_cons (pv 4) pa_nil))))
    (pss_one (ps_if (pt_truth (pe_fld (pv 6) rfl) (by intro _; rfl)) (pss_cons (ps_expr (pe_call G_take_line hr_take_line rfl T.m_take_line T.F_take_line.kp T.b_take_line .nil pass0 (pa_cons (pv 3) (pa_cons (pv 6) pa_nil))))
    (pss_one (ps_expr (pe_meth0 (pv 6) T.cl_Line T.me_Line_finish G_Line_finish hr_Line_finish T.b_Line_finish .nil pass0)))) pss_nil))))
    (pss_cons (ps_if (PW.pt (pw_and (pt_truth (pv 0) (by intro _; rfl)) (pw_and1 (pt_not (pt_val (pe_m1 PySem.F.slot_str_endswith PySem.F.type_str_endswith mt_endswith (pv 0) pe_str)))))) (pss_one ps_never) pss_nil)
    (pss_one (ps_ret (pv 3))))))), ?_⟩
    refine ⟨_, rfl, rs.map Rw.full, rfl, h6, fun l hl => by obtain ⟨r, h, rfl⟩ := List.mem_map.mp hl; exact (hln r h).okr, fun pr H1 s1 n1 e1 => ?_⟩
    refine ⟨_, rfl, fun d dx hd hdx ndx => ?_⟩
    refine ⟨d, dx, rfl, upd_same, fun a H2 ed edx eqs D2 hfp x2 => ⟨rfl, ?_⟩⟩
    have k12 : ∀ b u, H1 b = some u → H2 b = some u := fun b u h => x2 b u (ne_of_none h hd) (by rw [upd_ne (ne_of_none h hd), upd_ne (ne_of_none h hdx)]; exact h)
    have s12 : Same H H2 := fun b u h => k12 b u (s1 b u h)
    have fpn : ∀ b ∈ a.fp, H1 b = none := fun b hb => by
      have h := hfp b hb
      cases e : H1 b with
      | none => rfl
      | some u =>
        rw [upd_ne (ne_of_none e hd), upd_ne (ne_of_none e hdx), e] at h
        cases h
    have prd : pr ≠ d := ne_of_none e1 hd
    refine ⟨_, rfl, pr, _, rfl, SqL.of (k12 _ _ e1), ?_⟩
    refine for_enumS (K := K) (a := pr) (xs := (rs.map Rw.full).map SV) (fun i σ H' => ∃ (b : DA) (y4 y5 y6 : Option V), σ = [some (SV (fullT (rs.map Rw.full))), some (.bl false), some (.ref pr), some (.ref d), y4, y5, y6] ∧ b.d = d ∧ DfAt T.c_Draft b ((itsR (rs.take i)).foldl stp s0) H' ∧ H' pr = some (.lst ((rs.map Rw.full).map SV)) ∧ pr ∉ b.fp ∧ (∀ c ∈ b.fp, H c = none) ∧ Same H H') ?_ ?_ ?_ ?_
    · refine ⟨a, _, _, _, by rw [← ed]; rfl, ed, D2, k12 _ _ e1, fun z => ?_, fun c hc => s1.free (fpn c hc), s12⟩
      have := fpn pr z
      rw [e1] at this; cases this
    · exact fun i σ H' ⟨_, _, _, _, _, _, _, e, _⟩ => SqL.of e
    · rintro i x t σ H3 hx ⟨b, y4, y5, y6, rfl, eb, D3, e3, npr, hb, s3⟩ ht
      obtain ⟨z, hz, rfl⟩ := map_at hx
      obtain ⟨r, hit, rfl⟩ := map_at hz
      have ln := hln r (List.mem_of_getElem? hit)
      obtain ⟨tk, bb, eb2⟩ := itsR_at hit
      have st := same_upd ht (.tup [.int (1 + (i : Int)), SV r.full])
      refine ⟨t, _, rfl, .inl (.inl upd_same), rfl, _, _, rfl, _, _, rfl, rfl, ?_⟩
      refine ⟨_, rfl, _, rfl, fun o dx2 ho hdx2 ndx2 => ?_⟩
      refine ⟨o, dx2, 1 + (i : Int), r.x, r.cm, r.U, rfl, upd_same, ln.tk, ln.ok, ln.cm, ln.len, ln.op, fun l H4 nl x4 L4 => ⟨rfl, ?_⟩⟩
      have k34 : Same H3 H4 := fun c u h => by
        have h := st c u h
        exact x4 c u (ne_of_none h ho) (by rw [upd_ne (ne_of_none h ho), upd_ne (ne_of_none h hdx2)]; exact h)
      have D4 := D3.same k34
      have nod : o ≠ b.d := fun z => by
        have := st _ _ D3.ins
        rw [← z, ho] at this; cases this
      have nlf : l ∉ b.fp := fun z => by
        obtain ⟨xs, e⟩ := D3.lst l z
        have e2 := st _ _ e
        rw [upd_ne (ne_of_none e2 ho), upd_ne (ne_of_none e2 hdx2), e2] at nl
        cases nl
      have e4 := k34 _ _ e3
      have hpo : pr ≠ o := fun z => by rw [z, L4.ins] at e4; cases e4
      have s34 : Same H H4 := s3.trans k34
      cases hri : r.it with
      | none =>
        have hU : r.U = [] := by rw [ln.iu, hri]
        refine ⟨_, rfl, o, _, dx2, _, _, rfl, L4.ins, T.cl_Line, T.no_Line_tokens, rfl, false, .inl ⟨_, SqL.of L4.lst, by rw [hU]; rfl⟩, iteF ?_⟩
        rw [hri] at tk
        exact ⟨b, _, _, _, rfl, eb, by rw [tk]; simpa using D4, e4, npr, hb, s34⟩
      | some it =>
      rw [hri] at tk eb2
      have hU : r.U = tokI it := by rw [ln.iu, hri]
      rw [eb2] at hok
      obtain ⟨io, ib⟩ := hok.mid
      have tk2 := tok_two io
      refine ⟨_, rfl, o, _, dx2, _, _, rfl, L4.ins, T.cl_Line, T.no_Line_tokens, rfl, true, .inl ⟨_, SqL.of L4.lst, ?_⟩, iteT ?_⟩
      · rw [hU]
        cases e : tokI it with
        | nil => rw [e] at tk2; simp at tk2
        | cons a b => rfl
      rw [hU] at L4
      refine ⟨_, rfl, _, rfl, b, _, it, o, dx2, l, _, tokI it, trivial, by rw [eb]; rfl, D4, L4, nod, nlf, rfl, io, ib, fun b' H5 eb' D5 hor L5 x5 => ?_⟩
      refine ⟨_, rfl, o, dx2, _, rfl, L5.ins, rfl, o, dx2, l, _, tokI it, rfl, L5, ?_⟩
      have e5 := x5 pr _ hpo npr e4
      have s5 : Same H H5 := fun c u h => by
        have h3 := s3 c u h
        have h3t := st c u h3
        refine x5 c u (ne_of_none h3t ho) (fun z => ?_) (k34 c u h3)
        have := hb c z
        rw [h] at this; cases this
      refine ⟨b', _, _, _, rfl, by rw [eb', eb], by rw [tk, List.foldl_append]; exact D5, e5, ?_, ?_, s5⟩
      · rcases hor with rfl | ⟨q2, rfl, hq2⟩
        · exact npr
        · intro z
          have : pr ∈ b.fp ∨ pr = q2 := by
            unfold DA.fp at z ⊢
            simp only [List.mem_cons, List.mem_append, List.not_mem_nil, or_false] at z ⊢
            rcases z with h | h | h | h | h | h
            · exact .inl (.inl h)
            · exact .inl (.inr (.inl h))
            · exact .inl (.inr (.inr (.inl h)))
            · exact .inl (.inr (.inr (.inr (.inl h))))
            · exact .inl (.inr (.inr (.inr (.inr h))))
            · exact .inr h
          rcases this with h | h
          · exact npr h
          · rw [h] at e4; rw [hq2] at e4; cases e4
      · rcases hor with rfl | ⟨q2, rfl, hq2⟩
        · exact hb
        · intro c hc
          have : c ∈ b.fp ∨ c = q2 := by
            unfold DA.fp at hc ⊢
            simp only [List.mem_cons, List.mem_append, List.not_mem_nil, or_false] at hc ⊢
            rcases hc with h | h | h | h | h | h
            · exact .inl (.inl h)
            · exact .inl (.inr (.inl h))
            · exact .inl (.inr (.inr (.inl h)))
            · exact .inl (.inr (.inr (.inr (.inl h))))
            · exact .inl (.inr (.inr (.inr (.inr h))))
            · exact .inr h
          rcases this with h | h
          · exact hb c h
          · rw [h]; exact s3.free (k34.free hq2)
    · rintro σ H3 ⟨b, y4, y5, y6, rfl, eb, D3, e3, npr, hb, s3⟩
      obtain ⟨l, hl⟩ := full_end (rs.map Rw.full) (by simpa using hne)
      rw [List.length_map, List.length_map, List.take_length] at D3
      refine ⟨_, rfl, true, ⟨by rw [mk_len]; exact small7 (by omega), by rw [mk_len, hl, List.length_append, List.length_singleton]; exact (bne_iff_ne.mpr (by omega)).symm⟩, iteT ⟨_, rfl, ⟨_, rfl⟩, _, _, rfl, rfl, _, rfl, ?_⟩⟩
      rw [show Txt.endswith (mkS (fullT (rs.map Rw.full))) "\n" = true by rw [hl]; exact ends_nl]
      refine iteF ⟨_, rfl, ?_⟩
      have := q b H3 D3 s3
      rw [eb] at this
      exact this
end
end Kx
namespace Kx
open PySem PySem.Spec PyProof.Rows L2
section
variable {P : Program} {w : World} {K : PySem.W.Frag} {mg : Str → Option Value} {base : Heap}
set_option pp.maxSteps 1200
/-! ### what the declarations make of a draft -/
def HasD (H : Hp) (p : Addr) (ws : List Str) : Prop := ∃ kvs : List (Key × V), H p = some (.dK kvs) ∧ ∀ z : Str, (valV kvs (Sum.inr z)).isSome = decide (z ∈ ws)
theorem HasD.same {H H' : Hp} {p : Addr} {ws : List Str} (h : HasD H p ws) (s : Same H H') : HasD H' p ws := by
  obtain ⟨kvs, e, k⟩ := h
  exact ⟨kvs, s _ _ e, k⟩
def RwT : Nat → PV → Prop
  | 0, _ => False
  | _ + 1, .str _ => True
  | _ + 1, .int _ => False
  | _ + 1, .tup [] => False
  | _ + 1, .tup (.int _ :: _) => False
  | _ + 1, .tup (.tup _ :: _) => False
  | n + 1, .tup (.str _ :: r) => r.length ≤ 3 ∧ ∀ t ∈ r, RwT n t
theorem RwT.cases {n : Nat} : ∀ {t : PV}, RwT (n + 1) t → (∃ z, t = .str z) ∨ ∃ w r, t = .tup (.str w :: r) ∧ r.length ≤ 3 ∧ ∀ t ∈ r, RwT n t
  | .str z, _ => .inl ⟨z, rfl⟩
  | .tup (.str w :: r), h => .inr ⟨w, r, rfl, h.1, h.2⟩
theorem RwT.up : ∀ {n : Nat} {t : PV}, RwT n t → RwT (n + 1) t
  | n + 1, .str _, _ => trivial
  | n + 1, .tup (.str _ :: _), h => ⟨h.1, fun t ht => (h.2 t ht).up⟩
theorem Tr.rw {L N B : List Str} : ∀ {n : Nat} {t : PV}, Tr L N B n t → RwT (n + 1) (raw t) := by
  intro n
  induction n with
  | zero =>
    intro t h
    rcases h.cases with ⟨z, rfl, hz⟩ | ⟨w, rfl, hw⟩ | ⟨w, r, m, rfl, e, _⟩
    · trivial
    · simp only [raw, List.isEmpty_nil, if_true]; trivial
    · omega
  | succ n ih =>
    intro t h
    rcases h.cases with ⟨z, rfl, hz⟩ | ⟨w, rfl, hw⟩ | ⟨w, r, m, rfl, e, hr, hw, hl, ht⟩
    · trivial
    · simp only [raw, List.isEmpty_nil, if_true]; trivial
    · cases e
      have e2 : r.isEmpty = false := by cases r with | nil => exact absurd rfl hr | cons _ _ => rfl
      simp only [raw, e2, Bool.false_eq_true, if_false, rawL_map]
      refine ⟨by rw [List.length_map]; exact hl, fun x hx => ?_⟩
      obtain ⟨t, ht', rfl⟩ := List.mem_map.mp hx
      exact ih (ht t ht')
/-- the declarations give it back -/
def Dl (ws : List Str) (t : PV) : Prop := RwT 3 (raw t) ∧ dcl ws (raw t) = t
/-! #### expressions that make values -/
def VxE (σ : L2.St) (H0 : Hp) (te : TE) (t : PV) : Prop := ∀ (H : Hp) (Q : VK), Same H0 H → (∀ v H', Is H' v t → Same H H' → Q v H') → te σ H Q
def VsE (σ : L2.St) (H0 : Hp) (ta : TA) (ts : List PV) : Prop := ∀ (H : Hp) (Q : List V → Hp → Prop), Same H0 H → (∀ vs H', IsL H' vs ts → Same H H' → Q vs H') → ta σ H Q
def VlE (σ : L2.St) (H0 : Hp) (te : TE) (ts : List PV) : Prop := ∀ (H : Hp) (Q : VK), Same H0 H → (∀ D vs H', H D = none → H' D = some (.lst vs) → IsL H' vs ts → Same H H' → Q (.ref D) H') → te σ H Q
theorem vx_var {σ : L2.St} {H0 : Hp} {i : Nat} {v : V} {t : PV} (e : σ[i]? = some (some v)) (h : Is H0 v t) : VxE σ H0 (tVar i) t := fun H Q s q => ⟨_, e, q v H (h.same s) (.refl _)⟩
theorem vx_str {σ : L2.St} {H0 : Hp} {i : Nat} {z : Str} (e : σ[i]? = some (some (.str z))) (ok : sok z = true) : VxE σ H0 (tVar i) (.str z) := vx_var e (.str z ok)
theorem vx_int {σ : L2.St} {H0 : Hp} {i : Nat} {z : Int} (e : σ[i]? = some (some (.int z))) : VxE σ H0 (tVar i) (.int z) := vx_var e (.int z)
theorem vx_lit {σ : L2.St} {H0 : Hp} {z : Str} (ok : sok z = true) : VxE σ H0 (tC (.str z)) (.str z) := fun H Q s q => q _ H (.str z ok) (.refl _)
theorem vs_nil {σ : L2.St} {H0 : Hp} : VsE σ H0 tNil [] := fun H Q s q => q [] H .nil (.refl _)
theorem vs_cons {σ : L2.St} {H0 : Hp} {te : TE} {ta : TA} {t : PV} {ts : List PV} (a : VxE σ H0 te t) (b : VsE σ H0 ta ts) : VsE σ H0 (tCons te ta) (t :: ts) := fun H Q s q =>
  a H _ s fun v H1 i1 s1 => b H1 _ (s.trans s1) fun vs H2 i2 s2 => q (v :: vs) H2 (.cons (i1.same s2) i2) (s1.trans s2)
theorem vx_tup {σ : L2.St} {H0 : Hp} {ta : TA} {ts : List PV} (a : VsE σ H0 ta ts) (l : ts.length ≤ 1000) : VxE σ H0 (tTup ta) (.tup ts) := fun H Q s q =>
  a H _ s fun vs H1 i1 s1 => ⟨by rw [i1.len]; exact Nat.le_of_lt (small1000 l), fun p hp => q (.ref p) _ (.tup upd_same (i1.same (same_upd hp _))) (s1.trans (same_upd hp _))⟩
theorem go_vx {σ : L2.St} {H : Hp} {te : TE} {t : PV} {g : TG} {rest : TS} {D : Ends} (h : VxE σ H te t) (q : ∀ v H1, Is H1 v t → Same H H1 → g v σ H1 fun σ2 H2 => rest D σ2 H2) : tSeq (tAsg te g) rest D σ H := h H _ (.refl _) q
theorem VxE.go {σ : L2.St} {H : Hp} {te : TE} {t : PV} (h : VxE σ H te t) {Q : VK} (q : ∀ v H', Is H' v t → Same H H' → Q v H') : te σ H Q := h H Q (.refl _) q
theorem go_v1 {σ : L2.St} {H : Hp} {te : TE} {t : PV} {R : List V → Hp → Prop} (h : VxE σ H te t) (q : ∀ v H', Is H' v t → Same H H' → R [v] H') : tCons te tNil σ H R := h H _ (.refl _) q
theorem go_vl {σ : L2.St} {H : Hp} {te : TE} {ts : List PV} {g : TG} {rest : TS} {D : Ends} (h : VlE σ H te ts) (q : ∀ D1 vs H1, H D1 = none → H1 D1 = some (.lst vs) → IsL H1 vs ts → Same H H1 → g (.ref D1) σ H1 fun σ2 H2 => rest D σ2 H2) : tSeq (tAsg te g) rest D σ H := h H _ (.refl _) q
theorem go_retB {r : List V → Hp → VK → Prop} {ta : TA} {D : Ends} {σ : L2.St} {H : Hp} (h : ta σ H fun vs H1 => r vs H1 D.rt) : tRet (tCB r ta) D σ H := h
theorem go_vl1 {σ : L2.St} {H : Hp} {te : TE} {ts : List PV} {R : List V → Hp → Prop} (h : VlE σ H te ts) (q : ∀ D1 vs H1, H D1 = none → H1 D1 = some (.lst vs) → IsL H1 vs ts → Same H H1 → R [.ref D1] H1) : tCons te tNil σ H R := h H _ (.refl _) q
/-- a list of what is made of a tuple's items -/
theorem vl_lcT {K : PySem.W.Frag} {σ : L2.St} {H0 : Hp} {tl te : TE} {xs : List V} {L : List PV} {k : Nat} (ht : TlE K σ H0 tl xs) (hl : L.length = xs.length) (hb : xs.length ≤ 1000)
    (hs : ∀ (i : Nat) (x : V) (y : PV) (H' : Hp), xs[i]? = some x → L[i]? = some y → Same H0 H' → VxE ((σ.set k none).set k (some x)) H' te y) :
    VlE σ H0 (tLc (iTup K tl) (gName k) tYes te [k]) L := fun H Q s q => by
  refine ht H _ s fun a H1 s1 ha => ⟨a, rfl, ⟨xs, ha⟩, fun D hD => ?_⟩
  refine lc_tup (K := K) (a := a) (xs := xs) (fun i H4 => Same H1 H4 ∧ ∃ vs, H4 D = some (.lst vs) ∧ IsL H4 vs (L.take i)) ?_ ?_ ?_ ?_
  · exact ⟨same_upd hD _, [], upd_same, .nil⟩
  · exact fun i H' _ ⟨s, _⟩ => sqt_same s ha
  · rintro i x H4 hx ⟨s4, vs, e4, i4⟩
    have hi := (List.getElem?_eq_some_iff.mp hx).1
    have hy : L[i]? = some (L[i]'(by omega)) := List.getElem?_eq_getElem _
    refine ⟨by show ((σ.set k none).set k (some x)).set k none = σ.set k none; simp only [List.set_set], yes_if ?_⟩
    refine hs i x _ H4 hx hy ((s.trans s1).trans s4) H4 _ (.refl _) fun v H5 iv s5 => ⟨_, s5 _ _ e4, ?_, Kx.Same.own (s4.trans s5) hD _, vs ++ [v], upd_same, ?_⟩
    · rw [i4.len]; exact small1000 (by have : (L.take i).length ≤ i := List.length_take_le ..; omega)
    · rw [List.take_add_one, hy]
      exact IsL.over (s5 _ _ e4) ((i4.same s5).append (.cons iv .nil))
  · rintro H4 ⟨s4, vs, e4, i4⟩
    rw [← hl, List.take_length] at i4
    exact q D vs H4 (s1.free hD) e4 i4 (s1.trans s4)
/-- a list of what is made of a tuple's pairs -/
theorem vl_lcP {K : PySem.W.Frag} {σ : L2.St} {H0 : Hp} {tl te : TE} {xs : List V} {L : List PV} {i1 i2 : Nat} (ht : TlE K σ H0 tl xs) (hl : L.length = xs.length) (hb : xs.length ≤ 1000)
    (hw : ∀ u v, wipe (((wipe σ [i1, i2]).set i1 (some u)).set i2 (some v)) [i1, i2] = wipe σ [i1, i2])
    (hs : ∀ (i : Nat) (x : V) (y : PV) (H' : Hp), xs[i]? = some x → L[i]? = some y → Same H0 H' → ∃ p u v, x = .ref p ∧ SqT K H' p [u, v] ∧ VxE (((wipe σ [i1, i2]).set i1 (some u)).set i2 (some v)) H' te y) :
    VlE σ H0 (tLc (iTup K tl) (gTup K 2 (gCons (gName i1) (gCons (gName i2) gNil))) tYes te [i1, i2]) L := fun H Q s q => by
  refine ht H _ s fun a H1 s1 ha => ⟨a, rfl, ⟨xs, ha⟩, fun D hD => ?_⟩
  refine lc_tup (K := K) (a := a) (xs := xs) (fun i H4 => Same H1 H4 ∧ ∃ vs, H4 D = some (.lst vs) ∧ IsL H4 vs (L.take i)) ?_ ?_ ?_ ?_
  · exact ⟨same_upd hD _, [], upd_same, .nil⟩
  · exact fun i H' _ ⟨s, _⟩ => sqt_same s ha
  · rintro i x H4 hx ⟨s4, vs, e4, i4⟩
    have hi := (List.getElem?_eq_some_iff.mp hx).1
    have hy : L[i]? = some (L[i]'(by omega)) := List.getElem?_eq_getElem _
    obtain ⟨p, u, v, rfl, hp, htx⟩ := hs i x _ H4 hx hy ((s.trans s1).trans s4)
    refine ⟨p, _, rfl, hp, rfl, _, _, rfl, _, _, rfl, rfl, hw u v, yes_if ?_⟩
    refine htx H4 _ (.refl _) fun v H5 iv s5 => ⟨_, s5 _ _ e4, ?_, Kx.Same.own (s4.trans s5) hD _, vs ++ [v], upd_same, ?_⟩
    · rw [i4.len]; exact small1000 (by have : (L.take i).length ≤ i := List.length_take_le ..; omega)
    · rw [List.take_add_one, hy]
      exact IsL.over (s5 _ _ e4) ((i4.same s5).append (.cons iv .nil))
  · rintro H4 ⟨s4, vs, e4, i4⟩
    rw [← hl, List.take_length] at i4
    exact q D vs H4 (s1.free hD) e4 i4 (s1.trans s4)
def spDecl (n : Nat) : Sp := fun vs H Q _ => ∃ (v : V) (p : Addr) (t : PV) (ws : List Str), vs = [v, .ref p] ∧ Is H v t ∧ RwT n t ∧ HasD H p ws ∧ ∀ v' H', Is H' v' (dcl ws t) → Same H H' → Q v' H'
theorem ok_declared {n : Nat}(T : Txt K mg) (G_declared : FnOk P w K mg base CX0 (n+1) T.a_declared T.d_declared ["tree", "words"] (spDecl n)) : FnOk P w K mg base CX0 (n+2) T.a_declared T.d_declared ["tree", "words"] (spDecl (n+1)) := by
  refine T.F_declared.ok sc_declared (fun vs H Q E h => ?_) (fun cdv A outer s H vs Q E hr h => ?_)
  · obtain ⟨v, p, t, ws, rfl, _⟩ := h; rfl
  · obtain ⟨v, p, t, ws, rfl, hI, hT, hD, q⟩ := h
    have hu := hu_of hr
    have hr_declared := hr
    refine ⟨_, (pss_cons (ps_if (pt_val (pe_callB call_isi (by rfl) T.z_isinstance (by decide +kernel) (pa_cons (pv 0) (pa_cons (pe_bltn rfl T.z_str (by decide +kernel) (show RelV (V.ty "str") (Value.type "str") from rfl)) pa_nil)))) (pss_one (ps_ret (pe_ifExp (pt_cmp (pc_din hu (pv 0) (pv 1))) (pe_tup (pa_cons (pv 0) pa_nil)) (pv 0)))) pss_nil)
    (pss_cons (ps_set (i := 2) sc_declared.nd rfl (Or.inl rfl) (pe_lst (pa_cons (pe_ix ix_seq (pv 0) pe_int (fun _ _ => rfl)) pa_nil)))
    (pss_cons (ps_for PassesOwn.never rfl (pi_tup (pe_slice sl_tup (pv 0) (po_some pe_int) po_none)) (pg_name (i := 3) sc_declared.nd rfl (Or.inl rfl))
    (pss_one (ps_expr (pe_bm PySem.F.plainAttrs_list PySem.F.slot_list_append PySem.F.type_list_append mt_append (pv 2) (pa_cons (pe_call G_declared hr_declared rfl T.m_declared T.F_declared.kp T.b_declared .nil pass0 (pa_cons (pv 3) (pa_cons (pv 1) pa_nil))) pa_nil)))))
    (pss_one (ps_ret (pe_callTy call_tuple_of (by rfl) T.z_tuple (by decide +kernel) (pa_cons (pv 2) pa_nil))))))), ?_⟩
    obtain ⟨u, ty, kt⟩ := hI.ty (K := K)
    refine ⟨_, rfl, _, _, u, _, _, rfl, .ty _, ty, kit_str kt, _, rfl, ?_⟩
    rcases hT.cases with ⟨z, rfl⟩ | ⟨w, r, rfl, hl, ht⟩
    · have okz : sok z = true := by cases hI with | str _ k => exact k
      cases hI.str_inv
      obtain ⟨kvs, eP, hk⟩ := hD
      refine iteT ⟨_, rfl, _, rfl, p, _, rfl, DGet.k (k := Sum.inr z) eP, _, rfl, ?_⟩
      rw [hk z]
      by_cases hz : z ∈ ws
      · rw [decide_eq_true hz]
        refine iteT ⟨_, rfl, (by show 1 ≤ sizeLine; decide), fun p1 hp1 => q _ _ ?_ (same_upd hp1 _)⟩
        rw [dcl, if_pos hz]
        exact .tup upd_same (.cons (.str z okz) .nil)
      · rw [decide_eq_false hz]
        refine iteF ⟨_, rfl, q _ H ?_ (.refl _)⟩
        rw [dcl, if_neg hz]
        exact .str z okz
    · obtain ⟨a, vs, rfl, ea, il⟩ := hI.tup_inv
      cases il with
      | cons h0 h1 =>
      have okw : sok w = true := by cases h0 with | str _ k => exact k
      cases h0.str_inv
      rename_i us
      have hlen := h1.len
      refine iteF ⟨_, rfl, .inr (.inl ⟨a, _, _, _, rfl, rfl, .inl (.inl ea), atI_nat (j := 0) rfl, (by show 1 ≤ sizeLine; decide), fun tq htq => ?_⟩)⟩
      have s1 := same_upd htq (.lst [V.str w])
      refine ⟨_, rfl, 1, rfl, a, V.str w :: us, rfl, .inl (.inl (s1 _ _ ea)), slice1, fun pc hpc => ⟨pc, rfl, ⟨_, .inl (.inl upd_same)⟩, ?_⟩⟩
      have s2 := same_upd hpc (.tup (cutV (V.str w :: us) (some 1) none))
      rw [cut1] at s2 ⊢
      refine for_tup (K := K) (a := pc) (xs := us) (fun i σ H' => ∃ y3 vs', σ = [some (.ref a), some (.ref p), some (.ref tq), y3] ∧ Same H H' ∧ H' pc = some (.tup us) ∧ H' tq = some (.lst (V.str w :: vs')) ∧ IsL H' vs' ((r.take i).map (dcl ws))) ?_ ?_ ?_ ?_
      · exact ⟨_, [], rfl, s1.trans s2, upd_same, s2 _ _ upd_same, .nil⟩
      · exact fun i σ H' _ ⟨_, _, _, _, e, _⟩ => .inl (.inl e)
      · rintro i x σ H3 hx ⟨y3, vs', rfl, s3, e3, e4, i4⟩
        obtain ⟨t, ht', it⟩ := h1.get hx
        have hi := (List.getElem?_eq_some_iff.mp hx).1
        refine ⟨_, rfl, .inl ⟨rfl, _, SqL.of e4⟩, _, rfl, _, rfl, x, p, t, ws, rfl, it.same s3, ht t (List.mem_of_getElem? ht'), hD.same s3, fun v5 H5 i5 s5 => ⟨tq, _, _, rfl, rfl, s5 _ _ e4, ?_, _, vs' ++ [v5], rfl, Kx.Same.own (s3.trans s5) htq _, ?_, upd_same, ?_⟩⟩
        · rw [List.length_cons, i4.len, List.length_map]; exact small1000 (by have : (r.take i).length ≤ i := List.length_take_le ..; omega)
        · rw [upd_ne (fun e => by rw [← e, e3] at e4; cases e4)]; exact s5 _ _ e3
        · rw [List.take_add_one, ht', List.map_append]
          exact IsL.over (s5 _ _ e4) ((i4.same s5).append (.cons i5 .nil))
      · rintro σ H3 ⟨y3, vs', rfl, s3, e3, e4, i4⟩
        rw [hlen, List.take_length] at i4
        refine ⟨_, rfl, tq, _, rfl, .inl ⟨SqL.of e4, fun q2 hq2 => q _ _ ?_ (s3.trans (same_upd hq2 _))⟩⟩
        rw [dcl, dclL_map]
        exact .tup upd_same (.cons (.str w okw) (i4.same (same_upd hq2 _)))
theorem all_decl (T : Txt K mg) : ∀ n, FnOk P w K mg base CX0 (n + 1) T.a_declared T.d_declared ["tree", "words"] (spDecl n)
  | 0 => no_left fun vs H Q E ⟨_, _, _, _, _, _, h, _⟩ => h
  | n + 1 => ok_declared T (all_decl T n)
theorem vx_decl {σ : L2.St} {H0 : Hp} {i j : Nat} {v : V} {p : Addr} {t : PV} {ws : List Str} {E : XK} (e1 : σ[i]? = some (some v)) (e2 : σ[j]? = some (some (.ref p))) (h : Is H0 v (raw t)) (hD : HasD H0 p ws) (d : Dl ws t) :
    VxE σ H0 (tCall (spDecl 3) [] E (tCons (tVar i) (tCons (tVar j) tNil))) t := fun H Q s q => ⟨_, e1, _, e2, v, p, raw t, ws, rfl, h.same s, d.1, hD.same s, by rw [d.2]; exact q⟩
def spKinds : Sp := fun vs H Q _ => ∃ (v : V) (p : Addr) (ks : List Kd) (ws : List Str), vs = [v, .ref p] ∧ Is H v (.tup (ks.map rawK)) ∧ ks.length ≤ 3 ∧ (∀ k ∈ ks, Dl ws k.tm) ∧ HasD H p ws ∧ ∀ v' H', Is H' v' (.tup (ks.map kdP)) → Same H H' → Q v' H'
theorem ok_kinds (T : Txt K mg) (G_declared : FnOk P w K mg base CX0 4 T.a_declared T.d_declared ["tree", "words"] (spDecl 3)) : FnOk P w K mg base CX0 5 T.a_kinds T.d_kinds ["kinds", "makers"] spKinds := by
  refine T.F_kinds.ok sc_kinds (fun vs H Q E h => ?_) (fun cdv A outer s H vs Q E hr h => ?_)
  · obtain ⟨v, p, ks, ws, rfl, _⟩ := h; rfl
  · obtain ⟨v, p, ks, ws, rfl, hI, l3, hK, hD, q⟩ := h
    have hr_declared := hr
    refine ⟨_, (pss_one (ps_ret (pe_callTy call_tuple_of (by rfl) T.z_tuple (by decide +kernel) (pa_cons (pe_lc (own := [("family", 2), ("term", 3)]) (g := (gTup K 2 (gCons (gName 2) (gCons (gName 3) gNil)))) (tt := tYes) rfl sc_kinds.nd (pi_tup (pv 0)) (blkOk_by (own := [("family", 2), ("term", 3)]) (N := ["kinds", "makers", "family", "term"]) (sc := defScope s_kinds) (by decide +kernel)) (fun _ _ _ _ _ => (pg_tup rfl (pgs_cons (pg_name (i := 2) sc_kinds.nd rfl (Or.inl rfl)) (pgs_cons (pg_name (i := 3) sc_kinds.nd rfl (Or.inl rfl)) pgs_nil)))) (fun _ _ _ _ _ => pts_nil) (fun _ _ _ _ _ => (pe_tup (pa_cons (pv 2) (pa_cons (pe_call G_declared hr_declared rfl T.m_declared T.F_declared.kp T.b_declared .nil pass0 (pa_cons (pv 3) (pa_cons (pv 1) pa_nil))) pa_nil))))) pa_nil)))), ?_⟩
    obtain ⟨a, vs, rfl, ea, il⟩ := hI.tup_inv
    have hlen := il.len
    rw [List.length_map] at hlen
    refine go_retB ?_
    refine go_vl1 (vl_lcP (K := K) (L := ks.map kdP) (tl_var rfl (.inl (.inl ea))) (by rw [List.length_map, hlen]) (by omega) (fun u v => rfl) fun i x y H' hx hy s' => ?_) fun D vs' H1 hD1 e1 i1 s1 => ⟨D, vs', rfl, .inl ⟨SqL.of e1, fun q2 hq2 => q _ _ (.tup upd_same (i1.same (same_upd hq2 _))) (s1.trans (same_upd hq2 _))⟩⟩
    obtain ⟨u, hu2, iu⟩ := il.get hx
    obtain ⟨k, hk, rfl⟩ := map_at hu2
    obtain ⟨k2, hk2, rfl⟩ := map_at hy
    rw [hk] at hk2
    cases hk2
    obtain ⟨p1, us, rfl, ep, iu⟩ := (iu.same s').tup_inv
    obtain ⟨u0, u1, rfl, i0, i1⟩ := two_inv iu
    have ok0 : sok k.fam = true := by cases i0 with | str _ k => exact k
    cases i0.str_inv
    exact ⟨p1, _, u1, rfl, .inl (.inl ep), vx_tup (vs_cons (vx_str rfl ok0) (vs_cons (vx_decl rfl rfl i1 (hD.same s') (hK k (List.mem_of_getElem? hk))) vs_nil)) (by simp)⟩
def spClauses : Sp := fun vs H Q _ => ∃ (a p : Addr) (us : List V) (cls : List Cl) (ws : List Str), vs = [.ref a, .ref p] ∧ H a = some (.lst us) ∧ IsL H us (cls.map clR) ∧ cls.length ≤ 10 ∧ (∀ c ∈ cls, c.ps.length ≤ 3 ∧ (∀ p ∈ c.ps, Dl ws p) ∧ Dl ws c.b) ∧ HasD H p ws ∧ ∀ v' H', Is H' v' (.tup (cls.map clP)) → Same H H' → Q v' H'
theorem ok_clauses (T : Txt K mg) (G_declared : FnOk P w K mg base CX0 4 T.a_declared T.d_declared ["tree", "words"] (spDecl 3)) : FnOk P w K mg base CX0 5 T.a_clauses T.d_clauses ["clauses", "constructors"] spClauses := by
  refine T.F_clauses.ok sc_clauses (fun vs H Q E h => ?_) (fun cdv A outer s H vs Q E hr h => ?_)
  · obtain ⟨a, p, us, cls, ws, rfl, _⟩ := h; rfl
  · obtain ⟨a, p, us, cls, ws, rfl, ea, il, l10, hC, hD, q⟩ := h
    have hr_declared := hr
    refine ⟨_, (pss_cons (ps_set (i := 2) sc_clauses.nd rfl (Or.inl rfl) (pe_lst pa_nil))
    (pss_cons (ps_for PassesOwn.never rfl (pi_list (pv 0)) (pg_tup rfl (pgs_cons (pg_name (i := 3) sc_clauses.nd rfl (Or.inl rfl)) (pgs_cons (pg_name (i := 4) sc_clauses.nd rfl (Or.inl rfl)) pgs_nil)))
    (pss_cons (ps_setLc (i := 5) (own := [("pattern", 6)]) (g := (gName 6)) (tt := tYes) rfl sc_clauses.nd rfl rfl (sw_true rfl rfl rfl (by decide +kernel)) (pi_tup (pv 3)) (blkOk_by (own := [("pattern", 6)]) (N := ["clauses", "constructors", "found", "patterns", "body", "told", "pattern"]) (sc := defScope s_clauses) (by decide +kernel)) (fun _ _ _ _ _ => (pg_name (i := 6) sc_clauses.nd rfl (Or.inl rfl))) (fun _ _ _ _ _ => pts_nil) (fun _ _ _ _ _ => (pe_call G_declared hr_declared rfl T.m_declared T.F_declared.kp T.b_declared .nil pass0 (pa_cons (pv 6) (pa_cons (pv 1) pa_nil)))))
    (pss_one (ps_expr (pe_bm PySem.F.plainAttrs_list PySem.F.slot_list_append PySem.F.type_list_append mt_append (pv 2) (pa_cons (pe_tup (pa_cons (pe_callTy call_tuple_of (by rfl) T.z_tuple (by decide +kernel) (pa_cons (pv 5) pa_nil)) (pa_cons (pe_call G_declared hr_declared rfl T.m_declared T.F_declared.kp T.b_declared .nil pass0 (pa_cons (pv 4) (pa_cons (pv 1) pa_nil))) pa_nil))) pa_nil))))))
    (pss_one (ps_ret (pe_callTy call_tuple_of (by rfl) T.z_tuple (by decide +kernel) (pa_cons (pv 2) pa_nil)))))), ?_⟩
    have hlen := il.len
    rw [List.length_map] at hlen
    refine ⟨by decide, fun tq htq => ?_⟩
    have s1 := same_upd htq (.lst [])
    refine ⟨_, rfl, a, rfl, ⟨_, SqL.of (s1 _ _ ea)⟩, ?_⟩
    refine for_list (K := K) (a := a) (xs := us) (fun i σ H' => ∃ (y3 y4 y5 : Option V) (vs : List V), σ = [some (.ref a), some (.ref p), some (.ref tq), y3, y4, y5, none] ∧ Same H H' ∧ H' tq = some (.lst vs) ∧ IsL H' vs ((cls.take i).map clP)) ?_ ?_ ?_ ?_
    · exact ⟨_, _, _, [], rfl, s1, upd_same, .nil⟩
    · exact fun i σ H' _ ⟨_, _, _, _, _, s, _⟩ => SqL.of (s _ _ ea)
    · rintro i x σ H3 hx ⟨y3, y4, y5, vs, rfl, s3, e3, i3⟩
      obtain ⟨u, hu2, iu⟩ := il.get hx
      obtain ⟨c, hc, rfl⟩ := map_at hu2
      have hi := (List.getElem?_eq_some_iff.mp hx).1
      obtain ⟨h1, h2, h3⟩ := hC c (List.mem_of_getElem? hc)
      obtain ⟨pp, us2, rfl, ep, iu⟩ := (iu.same s3).tup_inv
      obtain ⟨u0, u1, rfl, i0, i1⟩ := two_inv iu
      obtain ⟨pq, us3, rfl, eq, i0⟩ := i0.tup_inv
      have hl3 := i0.len
      rw [List.length_map] at hl3
      refine ⟨pp, _, rfl, .inl (.inl ep), rfl, _, _, rfl, _, _, rfl, rfl, ?_⟩
      refine go_vl (vl_lcT (K := K) (L := c.ps) (k := 6) (tl_var rfl (.inl (.inl eq))) (by rw [hl3]) (by omega) fun j x y H' hx hy s' => ?_) fun D vs2 H4 nD e4 i4 s4 => ?_
      · obtain ⟨u, hu2, iu⟩ := i0.get hx
        obtain ⟨t, ht, rfl⟩ := map_at hu2
        rw [ht] at hy
        cases hy
        exact vx_decl rfl rfl (iu.same s') (hD.same (s3.trans s')) (h2 _ (List.mem_of_getElem? ht))
      refine ⟨_, rfl, .inl ⟨rfl, _, SqL.of (s4 _ _ e3)⟩, _, rfl, D, vs2, rfl, .inl ⟨SqL.of e4, fun q2 hq2 => ?_⟩⟩
      have s5 := s4.trans (same_upd hq2 (.tup vs2))
      have i5 := i4.same (same_upd hq2 (.tup vs2))
      refine ⟨_, rfl, _, rfl, u1, p, raw c.b, ws, rfl, i1.same s5, h3.1, hD.same (s3.trans s5), fun v6 H6 i6 s6 => ⟨(by show 2 ≤ sizeLine; decide), fun p7 hp7 => ?_⟩⟩
      have s7 := s6.trans (same_upd hp7 (.tup [.ref q2, v6]))
      rw [h3.2] at i6
      have s57 := s5.trans s7
      refine ⟨tq, _, _, rfl, rfl, s57 _ _ e3, by rw [i3.len, List.length_map]; exact small1000 (by have : (cls.take i).length ≤ i := List.length_take_le ..; omega), _, _, _, vs ++ [.ref p7], rfl, Kx.Same.own (s3.trans s57) htq _, upd_same, ?_⟩
      rw [List.take_add_one, hc, List.map_append]
      exact IsL.over (s57 _ _ e3) ((i3.same s57).append (.cons (.tup upd_same (.cons (.tup (s7 _ _ upd_same) (i5.same s7)) (.cons (i6.same (same_upd hp7 _)) .nil))) .nil))
    · rintro σ H3 ⟨y3, y4, y5, vs, rfl, s3, e3, i3⟩
      rw [hlen, List.take_length] at i3
      exact ⟨_, rfl, tq, _, rfl, .inl ⟨SqL.of e3, fun q2 hq2 => q _ _ (.tup upd_same (i3.same (same_upd hq2 _))) (s3.trans (same_upd hq2 _))⟩⟩
end
end Kx
namespace Kx
open PySem PySem.Spec PyProof.Rows L2
section
variable {P : Program} {w : World} {K : PySem.W.Frag} {mg : Str → Option Value} {base : Heap}
set_option pp.maxSteps 1200
/-! ### the table and the program of a draft -/
theorem merge_has : ∀ (kvs : List (Key × V)) (acc : List (Key × V)) (k : Key), (valV (mergeK acc kvs) k).isSome = true ↔ (valV acc k).isSome = true ∨ k ∈ kvs.map Prod.fst
  | [], acc, k => by simp [mergeK]
  | kv :: r, acc, k => by
    show (valV (mergeK (putK acc kv.1 kv.2) r) k).isSome = true ↔ _
    rw [merge_has r, valV_put]
    by_cases h : k = kv.1
    · simp [h]
    · simp [h]
theorem put_len (c : List (Key × V)) (k : Key) (x : V) : (putK c k x).length ≤ c.length + 1 := by
  unfold putK
  split
  · rw [List.length_map]; omega
  · rw [List.length_append]; exact Nat.le_refl _
def kvM (m : Str × Nat) : Key × V := (Sum.inr m.1, .int m.2)
theorem mk_refs {K : PySem.W.Frag} {H : Hp} : ∀ {ms : List (Str × Nat)} {vs : List V}, IsL H vs (ms.map mkP) → ∃ ps : List Addr, vs = ps.map V.ref ∧ Paired (fun p kv => SqT K H p [kV kv.1, kv.2]) ps (ms.map kvM)
  | [], _, .nil => ⟨[], rfl, .nil⟩
  | m :: r, _, .cons h t => by
    obtain ⟨ps, e, pp⟩ := mk_refs (K := K) t
    obtain ⟨p, us, rfl, ep, iu⟩ := h.tup_inv
    obtain ⟨u0, u1, rfl, i0, i1⟩ := two_inv iu
    cases i0.str_inv
    cases i1
    subst e
    exact ⟨p :: ps, rfl, .cons (.inl (.inl ep)) pp⟩
theorem mem_inr {ms : List (Str × Nat)} {z : Str} : (Sum.inr z : Key) ∈ (ms.map kvM).map Prod.fst ↔ z ∈ ms.map (·.1) := by
  rw [List.map_map]
  constructor
  · intro h
    obtain ⟨m, hm, e⟩ := List.mem_map.mp h
    exact List.mem_map.mpr ⟨m, hm, Sum.inr.inj e⟩
  · intro h
    obtain ⟨m, hm, e⟩ := List.mem_map.mp h
    exact List.mem_map.mpr ⟨m, hm, by rw [← e]; rfl⟩
theorem mk_has {H : Hp} {p : Addr} {ms : List (Str × Nat)} (e : H p = some (.dK (mergeK [] (ms.map kvM)))) : HasD H p (ms.map (·.1)) := ⟨_, e, fun z => by
  rw [Bool.eq_iff_iff, merge_has, valV_nil, mem_inr]
  simp⟩
/-- a dict comprehension over a list -/
theorem dc_list {K : PySem.W.Frag} {a : Addr} {xs : List V} {g : TG} {tt : TT} {tk tv : TE} {vs : List Nat} {σ : L2.St} {H1 : Hp} {D : Addr} {Qd : Hp → Prop} (Pv : Nat → Hp → Prop) (h0 : Pv 0 (upd H1 D (.dK []))) (hl : ∀ i H, i ≤ xs.length → Pv i H → SqL K H a xs)
    (hs : ∀ i x H, xs[i]? = some x → Pv i H → g x (wipe σ vs) H fun σ2 H2 => wipe σ2 vs = wipe σ vs ∧ tt σ2 H2 fun b H3 =>
      if b = true then tk σ2 H3 fun y H4 => tv σ2 H4 fun z H5 => ∃ kvs k, y = kV k ∧ H5 D = some (.dK kvs) ∧ kvs.length < sizeLine ∧ Pv (i + 1) (upd H5 D (.dK (putK kvs k z))) else Pv (i + 1) H3) (hd : ∀ H, Pv xs.length H → Qd H) :
    ∃ W : Nat → Nat → Hp → Prop, (∃ m, W 0 m (upd H1 D (.dK []))) ∧ ∀ i m H, W i m H →
      ((Itl K a).stop i H ∧ Qd H) ∨ ((Itl K a).go i H ∧ ∃ Nx : Hp → Prop, (∀ H', Nx H' → ∃ m', m' < m ∧ W (i + 1) m' H') ∧ ∀ x H', (Itl K a).yld i H x H' → g x (wipe σ vs) H' fun σ2 H2 => wipe σ2 vs = wipe σ vs ∧ tt σ2 H2 fun b H3 =>
        if b = true then tk σ2 H3 fun y H4 => tv σ2 H4 fun z H5 => ∃ kvs k, y = kV k ∧ H5 D = some (.dK kvs) ∧ kvs.length < sizeLine ∧ Nx (upd H5 D (.dK (putK kvs k z))) else Nx H3) := by
  refine ⟨fun i left H => left = xs.length - i ∧ i ≤ xs.length ∧ Pv i H, ⟨_, rfl, Nat.zero_le _, h0⟩, fun i left H w => ?_⟩
  obtain ⟨rfl, le, pv⟩ := w
  have sq := hl i H le pv
  rcases Nat.lt_or_ge i xs.length with lt | ge
  · refine .inr ⟨⟨xs, xs[i], sq, List.getElem?_eq_getElem lt⟩, Pv (i + 1), fun H' pv' => ⟨xs.length - (i + 1), by omega, rfl, lt, pv'⟩, ?_⟩
    rintro x H' ⟨rfl, yl⟩
    exact hs i x _ (yl xs sq) pv
  · have e : i = xs.length := Nat.le_antisymm le ge
    exact .inl ⟨⟨xs, sq, ge⟩, hd H (e ▸ pv)⟩
theorem go_ret {te : TE} {t : PV} {D : Ends} {σ : L2.St} {H : Hp} (h : VxE σ H te t) (q : ∀ v H', Is H' v t → Same H H' → D.rt v H') : tRet te D σ H := h H _ (.refl _) q
theorem cnR_inv {H : Hp} {v : V} {c : Cn} (h : Is H v (cnR c)) : ∃ (p : Addr) (u i : V), v = .ref p ∧ H p = some (.tup [.str c.w, u, .str c.md.fam, i]) ∧ Is H u (.tup (c.ps.map rawK)) ∧ Is H i (raw c.md.tm) ∧ sok c.w = true ∧ sok c.md.fam = true := by
  obtain ⟨p, us, rfl, ep, iu⟩ := h.tup_inv
  cases iu with
  | cons h0 iu =>
  cases iu with
  | cons h1 iu =>
  obtain ⟨v2, v3, rfl, h2, h3⟩ := two_inv iu
  have o1 : sok c.w = true := by cases h0 with | str _ k => exact k
  have o2 : sok c.md.fam = true := by cases h2 with | str _ k => exact k
  cases h0.str_inv
  cases h2.str_inv
  exact ⟨p, _, v3, rfl, ep, h1, h3, o1, o2⟩
theorem FnL.get {H : Hp} : ∀ {vs : List V} {qs : List Addr} {fs : List Fn}, FnL H vs qs fs → ∀ {i : Nat} {x : V}, vs[i]? = some x → ∃ p q kv ix us f, fs[i]? = some f ∧ x = .ref p ∧ H p = some (.tup [.str f.w, kv, .str f.md.fam, ix, .int f.falls, .ref q]) ∧ sok f.w = true ∧ sok f.md.fam = true ∧ Is H kv (.tup (f.ps.map rawK)) ∧ Is H ix (raw f.md.tm) ∧ H q = some (.lst us) ∧ IsL H us (f.cls.map clR)
  | _, _, _, .nil, i, x, h => by simp at h
  | _, _, _, .cons e o1 o2 ik ii eq il r, 0, x, h => by cases h; exact ⟨_, _, _, _, _, _, rfl, rfl, e, o1, o2, ik, ii, eq, il⟩
  | _, _, _, .cons e o1 o2 ik ii eq il r, i + 1, x, h => r.get (by simpa using h)
def spCw (C : Addr) : Sp := fun vs H Q _ => ∃ (a : DA) (s : DS), vs = [.ref a.d] ∧ DfAt C a s H ∧ s.cn.length ≤ 100 ∧ ∀ p H', HasD H' p (s.cn.map (·.w)) → Same H H' → Q (.ref p) H'
theorem ok_constructor_words (T : Txt K mg)  : FnOk P w K mg base CX0 1 T.a_constructor_words T.d_constructor_words ["draft"] (spCw T.c_Draft) := by
  refine T.F_constructor_words.ok sc_constructor_words (fun vs H Q E h => ?_) (fun cdv A outer s H vs Q E hr h => ?_)
  · obtain ⟨a, s, rfl, _⟩ := h; rfl
  · obtain ⟨a, s, rfl, D, l100, q⟩ := h
    refine ⟨_, (pss_one (ps_ret (pe_dc (own := [("row", 1)]) (g := gName 1) (tt := tYes) rfl sc_constructor_words.nd (pi_list (pe_fld (pv 0) rfl)) (blkOk_by (own := [("row", 1)]) (N := ["draft", "row"]) (sc := defScope s_constructor_words) (by decide +kernel)) (fun _ _ _ _ _ => pg_name (i := 1) sc_constructor_words.nd rfl (Or.inl rfl)) (fun _ _ _ _ _ => pts_nil) (fun _ _ _ _ _ => (pe_ix (ixTK (K := K)) (pv 1) pe_int (fun _ _ => rfl))) (fun _ _ _ _ _ => pe_bl)))), ?_⟩
    obtain ⟨vc, ec, ic⟩ := D.cn
    have hlen := ic.len
    rw [List.length_map] at hlen
    refine ⟨_, rfl, a.d, _, a.dx, _, _, rfl, D.ins, T.cl_Draft, T.no_Draft_constructors, rfl, a.lc, rfl, ⟨_, SqL.of ec⟩, fun P hP => ?_⟩
    refine dc_list (K := K) (a := a.lc) (xs := vc) (fun i H4 => Same H H4 ∧ ∃ kvs : List (Key × V), H4 P = some (.dK kvs) ∧ kvs.length ≤ i ∧ ∀ z : Str, (valV kvs (Sum.inr z)).isSome = decide (z ∈ (s.cn.take i).map (·.w))) ?_ ?_ ?_ ?_
    · exact ⟨same_upd hP _, [], upd_same, Nat.le_refl _, fun z => rfl⟩
    · exact fun i H' _ ⟨s, _⟩ => SqL.of (s _ _ ec)
    · rintro i x H4 hx ⟨s4, kvs, e4, l4, k4⟩
      obtain ⟨u, hu2, iu⟩ := ic.get hx
      obtain ⟨c, hc, rfl⟩ := map_at hu2
      have hi := (List.getElem?_eq_some_iff.mp hx).1
      obtain ⟨p, u, ii, rfl, ep, iu1, iu2, o1, o2⟩ := cnR_inv (iu.same s4)
      refine ⟨rfl, yes_if ⟨_, rfl, p, _, _, _, rfl, rfl, .inl (.inl ep), atI_nat (j := 0) rfl, ?_⟩⟩
      refine ⟨kvs, Sum.inr c.w, rfl, e4, small1000 (by omega), Kx.Same.own s4 hP _, _, upd_same, Nat.le_trans (put_len _ _ _) (Nat.succ_le_succ l4), fun z => ?_⟩
      rw [valV_put, List.take_add_one, hc]
      by_cases hz : z = c.w
      · simp [hz]
      · have : (Sum.inr z : Key) ≠ Sum.inr c.w := fun e => hz (Sum.inr.inj e)
        rw [if_neg this, k4]
        simp [hz]
    · rintro H4 ⟨s4, kvs, e4, l4, k4⟩
      rw [hlen, List.take_length] at k4
      exact q P H4 ⟨kvs, e4, k4⟩ s4
/-- what a draft tells, as the declarations make it -/
structure DsOk (s : DS) : Prop where
  l1 : s.ms.length ≤ 10
  l2 : s.fm.length ≤ 10
  l3 : s.cn.length ≤ 10
  l4 : s.fs.length ≤ 10
  cn : ∀ c ∈ s.cn, c.ps.length ≤ 3 ∧ (∀ k ∈ c.ps, Dl (s.ms.map (·.1)) k.tm) ∧ Dl (s.ms.map (·.1)) c.md.tm
  fn : ∀ f ∈ s.fs, f.ps.length ≤ 3 ∧ (∀ k ∈ f.ps, Dl (s.ms.map (·.1)) k.tm) ∧ Dl (s.ms.map (·.1)) f.md.tm ∧ f.cls.length ≤ 10 ∧ ∀ c ∈ f.cls, c.ps.length ≤ 3 ∧ (∀ p ∈ c.ps, Dl (s.cn.map (·.w)) p) ∧ Dl (s.cn.map (·.w)) c.b
def spRTable (C : Addr) : Sp := fun vs H Q _ => ∃ (a : DA) (s : DS), vs = [.ref a.d] ∧ DfAt C a s H ∧ DsOk s ∧ ∀ v H', Is H' v (tabP ⟨s.ms, s.fm, s.cn⟩) → Same H H' → Q v H'
theorem ok_table (T : Txt K mg) (G_declared : FnOk P w K mg base CX0 4 T.a_declared T.d_declared ["tree", "words"] (spDecl 3)) (G_kinds : FnOk P w K mg base CX0 5 T.a_kinds T.d_kinds ["kinds", "makers"] spKinds) : FnOk P w K mg base CX0 6 T.a_table T.d_table ["draft"] (spRTable T.c_Draft) := by
  refine T.F_table.ok sc_table (fun vs H Q E h => ?_) (fun cdv A outer s H vs Q E hr h => ?_)
  · obtain ⟨a, s, rfl, _⟩ := h; rfl
  · obtain ⟨a, s, rfl, D, ok, q⟩ := h
    have hr_declared : Room 4 _ := hr.mono (by decide)
    have hr_kinds : Room 5 _ := hr
    refine ⟨_, (pss_cons (ps_set (i := 1) sc_table.nd rfl (Or.inl rfl) (pe_callTy (call_dictP rfl) (by rfl) T.z_dict (by decide +kernel) (pa_cons (pe_fld (pv 0) rfl) pa_nil)))
    (pss_cons (ps_set (i := 2) sc_table.nd rfl (Or.inl rfl) (pe_lst pa_nil))
    (pss_cons (ps_for PassesOwn.never rfl (pi_list (pe_fld (pv 0) rfl)) (pg_tup rfl (pgs_cons (pg_name (i := 3) sc_table.nd rfl (Or.inl rfl)) (pgs_cons (pg_name (i := 4) sc_table.nd rfl (Or.inl rfl)) (pgs_cons (pg_name (i := 5) sc_table.nd rfl (Or.inl rfl)) (pgs_cons (pg_name (i := 6) sc_table.nd rfl (Or.inl rfl)) pgs_nil)))))
    (pss_one (ps_expr (pe_bm PySem.F.plainAttrs_list PySem.F.slot_list_append PySem.F.type_list_append mt_append (pv 2) (pa_cons (pe_tup (pa_cons (pv 3) (pa_cons (pe_call G_kinds hr_kinds rfl T.m_kinds T.F_kinds.kp T.b_kinds .nil pass0 (pa_cons (pv 4) (pa_cons (pv 1) pa_nil))) (pa_cons (pv 5) (pa_cons (pe_call G_declared hr_declared rfl T.m_declared T.F_declared.kp T.b_declared .nil pass0 (pa_cons (pv 6) (pa_cons (pv 1) pa_nil))) pa_nil))))) pa_nil)))))
    (pss_one (ps_ret (pe_tup (pa_cons pe_str (pa_cons (pe_callTy call_tuple_of (by rfl) T.z_tuple (by decide +kernel) (pa_cons (pe_fld (pv 0) rfl) pa_nil)) (pa_cons (pe_callTy call_tuple_of (by rfl) T.z_tuple (by decide +kernel) (pa_cons (pe_fld (pv 0) rfl) pa_nil)) (pa_cons (pe_callTy call_tuple_of (by rfl) T.z_tuple (by decide +kernel) (pa_cons (pv 2) pa_nil)) pa_nil)))))))))), ?_⟩
    obtain ⟨vm, em, im⟩ := D.mak
    obtain ⟨vc, ec, ic⟩ := D.cn
    have hlen := ic.len
    rw [List.length_map] at hlen
    obtain ⟨ps, e, pp⟩ := mk_refs (K := K) im
    refine ⟨_, rfl, a.d, _, a.dx, _, _, rfl, D.ins, T.cl_Draft, T.no_Draft_makers, rfl, a.lm, ps, s.ms.map kvM, rfl, SqL.of (by rw [← e]; exact em), pp, fun pm hpm => ?_⟩
    have s1 := same_upd hpm (.dK (mergeK [] (s.ms.map kvM)))
    have M1 : HasD (upd H pm (.dK (mergeK [] (s.ms.map kvM)))) pm (s.ms.map (·.1)) := mk_has upd_same
    refine ⟨by decide, fun tq htq => ?_⟩
    have s2 := s1.trans (same_upd htq (.lst []))
    have M2 := M1.same (same_upd htq (.lst []))
    have D2 := D.same s2
    refine ⟨_, rfl, a.d, _, a.dx, _, _, rfl, D2.ins, T.cl_Draft, T.no_Draft_constructors, rfl, a.lc, rfl, ⟨_, SqL.of (s2 _ _ ec)⟩, ?_⟩
    have hq0 : H tq = none := s1.free htq
    refine for_list (K := K) (a := a.lc) (xs := vc) (fun i σ H' => ∃ (y3 y4 y5 y6 : Option V) (vs : List V), σ = [some (.ref a.d), some (.ref pm), some (.ref tq), y3, y4, y5, y6] ∧ Same (upd H pm (.dK (mergeK [] (s.ms.map kvM)))) H' ∧ H' tq = some (.lst vs) ∧ IsL H' vs ((s.cn.take i).map cnP)) ?_ ?_ ?_ ?_
    · exact ⟨_, _, _, _, [], rfl, same_upd htq _, upd_same, .nil⟩
    · exact fun i σ H' _ ⟨_, _, _, _, _, _, s, _⟩ => SqL.of (s _ _ (s1 _ _ ec))
    · rintro i x σ H3 hx ⟨y3, y4, y5, y6, vs, rfl, s3, e3, i3⟩
      obtain ⟨u, hu2, iu⟩ := ic.get hx
      obtain ⟨c, hc, rfl⟩ := map_at hu2
      have hi := (List.getElem?_eq_some_iff.mp hx).1
      obtain ⟨c3, ck, cm⟩ := ok.cn c (List.mem_of_getElem? hc)
      obtain ⟨p, u, ii, rfl, ep, iu1, iu2, o1, o2⟩ := cnR_inv (iu.same (s1.trans s3))
      have M3 := M1.same s3
      refine ⟨p, _, rfl, .inl (.inl ep), rfl, _, _, rfl, _, _, rfl, _, _, rfl, _, _, rfl, rfl, ?_⟩
      refine ⟨_, rfl, .inl ⟨rfl, _, SqL.of e3⟩, ?_⟩
      refine go_v1 (t := cnP c) (vx_tup (vs_cons (vx_str rfl o1) (vs_cons (t := .tup (c.ps.map kdP)) (fun H5 Q5 s5 q5 => ⟨_, rfl, _, rfl, u, pm, c.ps, _, rfl, iu1.same s5, c3, ck, M3.same s5, q5⟩) (vs_cons (vx_str rfl o2) (vs_cons (vx_decl rfl rfl iu2 M3 cm) vs_nil)))) (by simp)) fun v H4 i4 s4 => ?_
      refine ⟨tq, _, _, rfl, rfl, s4 _ _ e3, by rw [i3.len, List.length_map]; exact small1000 (by have : (s.cn.take i).length ≤ i := List.length_take_le ..; have := ok.l3; omega), _, _, _, _, vs ++ [v], rfl, ?_, upd_same, ?_⟩
      · exact Kx.Same.own (s3.trans s4) htq _
      · rw [List.take_add_one, hc, List.map_append]
        exact IsL.over (s4 _ _ e3) ((i3.same s4).append (.cons i4 .nil))
    · rintro σ H3 ⟨y3, y4, y5, y6, vs, rfl, s3, e3, i3⟩
      rw [hlen, List.take_length] at i3
      have s13 := s1.trans s3
      have D3 := D.same s13
      refine nx_of (go_ret (t := tabP ⟨s.ms, s.fm, s.cn⟩) (vx_tup (vs_cons (vx_lit (by decide +kernel)) (vs_cons (t := .tup (s.ms.map mkP)) (fun H5 Q5 s5 q5 => ?_) (vs_cons (t := .tup (s.fm.map PV.str)) (fun H5 Q5 s5 q5 => ?_) (vs_cons (t := .tup (s.cn.map cnP)) (fun H5 Q5 s5 q5 => ?_) vs_nil)))) (by simp)) ?_)
      rotate_right
      · exact fun v H' iv s' => q v H' iv (s13.trans s')
      · exact ⟨_, rfl, a.d, _, a.dx, _, _, rfl, s5 _ _ D3.ins, T.cl_Draft, T.no_Draft_makers, rfl, a.lm, vm, rfl, .inl ⟨SqL.of (s5 _ _ (s13 _ _ em)), fun l hl => q5 _ _ (.tup upd_same ((im.same (s13.trans s5)).same (same_upd hl _))) (same_upd hl _)⟩⟩
      · exact ⟨_, rfl, a.d, _, a.dx, _, _, rfl, s5 _ _ D3.ins, T.cl_Draft, T.no_Draft_families, rfl, a.lf, _, rfl, .inl ⟨SqL.of (s5 _ _ D3.fm), fun l hl => q5 _ _ (.tup upd_same (strsL D3.fo)) (same_upd hl _)⟩⟩
      · exact ⟨_, rfl, tq, _, rfl, .inl ⟨SqL.of (s5 _ _ e3), fun l hl => q5 _ _ (.tup upd_same ((i3.same s5).same (same_upd hl _))) (same_upd hl _)⟩⟩
def spRProg (C : Addr) : Sp := fun vs H Q _ => ∃ (a : DA) (s : DS), vs = [.ref a.d] ∧ DfAt C a s H ∧ DsOk s ∧ ∀ v H', Is H' v (prgP s.fs) → Same H H' → Q v H'
theorem ok_program (T : Txt K mg) (G_declared : FnOk P w K mg base CX0 4 T.a_declared T.d_declared ["tree", "words"] (spDecl 3)) (G_kinds : FnOk P w K mg base CX0 5 T.a_kinds T.d_kinds ["kinds", "makers"] spKinds) (G_clauses : FnOk P w K mg base CX0 5 T.a_clauses T.d_clauses ["clauses", "constructors"] spClauses) (G_constructor_words : FnOk P w K mg base CX0 1 T.a_constructor_words T.d_constructor_words ["draft"] (spCw T.c_Draft)) : FnOk P w K mg base CX0 6 T.a_program T.d_program ["draft"] (spRProg T.c_Draft) := by
  refine T.F_program.ok sc_program (fun vs H Q E h => ?_) (fun cdv A outer s H vs Q E hr h => ?_)
  · obtain ⟨a, s, rfl, _⟩ := h; rfl
  · obtain ⟨a, s, rfl, D, ok, q⟩ := h
    have hr_declared : Room 4 _ := hr.mono (by decide)
    have hr_constructor_words : Room 1 _ := hr.mono (by decide)
    have hr_kinds : Room 5 _ := hr
    have hr_clauses : Room 5 _ := hr
    refine ⟨_, (pss_cons (ps_set (i := 1) sc_program.nd rfl (Or.inl rfl) (pe_callTy (call_dictP rfl) (by rfl) T.z_dict (by decide +kernel) (pa_cons (pe_fld (pv 0) rfl) pa_nil)))
    (pss_cons (ps_set (i := 2) sc_program.nd rfl (Or.inl rfl) (pe_call G_constructor_words hr_constructor_words rfl T.m_constructor_words T.F_constructor_words.kp T.b_constructor_words .nil pass0 (pa_cons (pv 0) pa_nil)))
    (pss_cons (ps_set (i := 3) sc_program.nd rfl (Or.inl rfl) (pe_lst pa_nil))
    (pss_cons (ps_for PassesOwn.never rfl (pi_list (pe_fld (pv 0) rfl)) (pg_tup rfl (pgs_cons (pg_name (i := 4) sc_program.nd rfl (Or.inl rfl)) (pgs_cons (pg_name (i := 5) sc_program.nd rfl (Or.inl rfl)) (pgs_cons (pg_name (i := 6) sc_program.nd rfl (Or.inl rfl)) (pgs_cons (pg_name (i := 7) sc_program.nd rfl (Or.inl rfl)) (pgs_cons (pg_name (i := 8) sc_program.nd rfl (Or.inl rfl)) (pgs_cons (pg_name (i := 9) sc_program.nd rfl (Or.inl rfl)) pgs_nil)))))))
    (pss_cons (ps_set (i := 10) sc_program.nd rfl (Or.inl rfl) (pe_tup (pa_cons (pv 4) (pa_cons (pe_call G_kinds hr_kinds rfl T.m_kinds T.F_kinds.kp T.b_kinds .nil pass0 (pa_cons (pv 5) (pa_cons (pv 1) pa_nil))) (pa_cons (pv 6) (pa_cons (pe_call G_declared hr_declared rfl T.m_declared T.F_declared.kp T.b_declared .nil pass0 (pa_cons (pv 7) (pa_cons (pv 1) pa_nil))) (pa_cons (pv 8) pa_nil)))))))
    (pss_one (ps_expr (pe_bm PySem.F.plainAttrs_list PySem.F.slot_list_append PySem.F.type_list_append mt_append (pv 3) (pa_cons (pe_op op_catT (pv 10) (pe_tup (pa_cons (pe_call G_clauses hr_clauses rfl T.m_clauses T.F_clauses.kp T.b_clauses .nil pass0 (pa_cons (pv 9) (pa_cons (pv 2) pa_nil))) pa_nil))) pa_nil))))))
    (pss_one (ps_ret (pe_tup (pa_cons pe_str (pa_cons (pe_callTy call_tuple_of (by rfl) T.z_tuple (by decide +kernel) (pa_cons (pv 3) pa_nil)) pa_nil))))))))), ?_⟩
    obtain ⟨vm, em, im⟩ := D.mak
    obtain ⟨vg, eg, ig⟩ := D.fn
    have hlen := ig.len
    obtain ⟨ps, e, pp⟩ := mk_refs (K := K) im
    refine ⟨_, rfl, a.d, _, a.dx, _, _, rfl, D.ins, T.cl_Draft, T.no_Draft_makers, rfl, a.lm, ps, s.ms.map kvM, rfl, SqL.of (by rw [← e]; exact em), pp, fun pm hpm => ?_⟩
    have s1 := same_upd hpm (.dK (mergeK [] (s.ms.map kvM)))
    have M1 : HasD (upd H pm (.dK (mergeK [] (s.ms.map kvM)))) pm (s.ms.map (·.1)) := mk_has upd_same
    generalize (upd H pm (.dK (mergeK [] (s.ms.map kvM)))) = H1 at s1 M1 ⊢
    refine ⟨_, rfl, a, s, rfl, D.same s1, by have := ok.l3; omega, fun pc H2 C2 s2 => ?_⟩
    have s12 := s1.trans s2
    have M2 := M1.same s2
    refine ⟨by decide, fun tq htq => ?_⟩
    have s3 := same_upd htq (.lst [])
    have D3 := D.same (s12.trans s3)
    refine ⟨_, rfl, a.d, _, a.dx, _, _, rfl, D3.ins, T.cl_Draft, T.no_Draft_functions, rfl, a.lg, rfl, ⟨_, SqL.of (s3 _ _ (s12 _ _ eg))⟩, ?_⟩
    refine for_list (K := K) (a := a.lg) (xs := vg) (fun i σ H' => ∃ (y4 y5 y6 y7 y8 y9 y10 : Option V) (vs : List V), σ = [some (.ref a.d), some (.ref pm), some (.ref pc), some (.ref tq), y4, y5, y6, y7, y8, y9, y10] ∧ Same H2 H' ∧ H' tq = some (.lst vs) ∧ IsL H' vs ((s.fs.take i).map fnP)) ?_ ?_ ?_ ?_
    · exact ⟨_, _, _, _, _, _, _, [], rfl, s3, upd_same, .nil⟩
    · exact fun i σ H' _ ⟨_, _, _, _, _, _, _, _, _, s, _⟩ => SqL.of (s _ _ (s12 _ _ eg))
    · rintro i x σ H4 hx ⟨y4, y5, y6, y7, y8, y9, y10, vs, rfl, s4, e4, i4⟩
      have s14 := s12.trans s4
      have M4 := M2.same s4
      have C4 := C2.same s4
      obtain ⟨p, qq, kv, ix, us, f, hf, rfl, ep, o1, o2, ik, ii, eq, il⟩ := (ig.keep (.of s14) fun b _ u h => s14 _ _ h).get hx
      have hi := (List.getElem?_eq_some_iff.mp hx).1
      obtain ⟨c3, ck, cm, cl10, cc⟩ := ok.fn f (List.mem_of_getElem? hf)
      refine ⟨p, _, rfl, .inl (.inl ep), rfl, _, _, rfl, _, _, rfl, _, _, rfl, _, _, rfl, _, _, rfl, _, _, rfl, rfl, ?_⟩
      refine go_vx (t := .tup [.str f.w, .tup (f.ps.map kdP), .str f.md.fam, f.md.tm, .int f.falls]) (vx_tup (vs_cons (vx_str rfl o1) (vs_cons (t := .tup (f.ps.map kdP)) (fun H5 Q5 s5 q5 => ⟨_, rfl, _, rfl, kv, pm, f.ps, _, rfl, ik.same s5, c3, ck, M4.same s5, q5⟩) (vs_cons (vx_str rfl o2) (vs_cons (vx_decl rfl rfl ii M4 cm) (vs_cons (vx_int rfl) vs_nil))))) (by simp)) fun v H5 i5 s5 => ?_
      obtain ⟨ph, uh, rfl, eh, ih⟩ := i5.tup_inv
      have lh := ih.len
      refine ⟨_, rfl, .inl ⟨rfl, _, SqL.of (s5 _ _ e4)⟩, _, rfl, _, rfl, _, rfl, qq, pc, us, f.cls, _, rfl, s5 _ _ eq, il.same s5, cl10, cc, C4.same s5, fun v6 H6 i6 s6 => ⟨(by show 1 ≤ sizeLine; decide), fun p7 hp7 => ?_⟩⟩
      have s7 := s6.trans (same_upd hp7 (.tup [v6]))
      refine ⟨ph, p7, _, _, rfl, rfl, .inl (.inl (s7 _ _ eh)), .inl (.inl upd_same), fun e => (by rw [e] at lh; simp at lh), ?_, fun e => ?_, fun _ p8 hp8 => ?_⟩
      · rw [lh]; exact Nat.le_of_lt (small1000 (by simp))
      · cases e
      have s8 := s7.trans (same_upd hp8 (.tup (uh ++ [v6])))
      have s58 := s5.trans s8
      refine ⟨tq, _, _, rfl, rfl, s58 _ _ e4, by rw [i4.len, List.length_map]; exact small1000 (by have : (s.fs.take i).length ≤ i := List.length_take_le ..; have := ok.l4; omega), _, _, _, _, _, _, _, vs ++ [.ref p8], rfl, Kx.Same.own (s4.trans s58) htq _, upd_same, ?_⟩
      rw [List.take_add_one, hf, List.map_append]
      refine IsL.over (s58 _ _ e4) ((i4.same s58).append (.cons ?_ .nil))
      exact .tup upd_same (((ih.same s7).same (same_upd hp8 _)).append (.cons ((i6.same (same_upd hp7 _)).same (same_upd hp8 _)) .nil))
    · rintro σ H4 ⟨y4, y5, y6, y7, y8, y9, y10, vs, rfl, s4, e4, i4⟩
      rw [hlen, List.take_length] at i4
      refine nx_of (go_ret (t := prgP s.fs) (vx_tup (vs_cons (vx_lit (by decide +kernel)) (vs_cons (t := .tup (s.fs.map fnP)) (fun H5 Q5 s5 q5 => ?_) vs_nil)) (by simp)) ?_)
      rotate_right
      · exact fun v H' iv s' => q v H' iv ((s12.trans s4).trans s')
      exact ⟨_, rfl, tq, _, rfl, .inl ⟨SqL.of (s5 _ _ e4), fun l hl => q5 _ _ (.tup upd_same ((i4.same s5).same (same_upd hl _))) (same_upd hl _)⟩⟩
end
end Kx
namespace Kx
open PySem PySem.Spec PyProof.Rows L2
section
variable {P : Program} {w : World} {K : PySem.W.Frag} {mg : Str → Option Value} {base : Heap}
set_option pp.maxSteps 1200
/-! ### the items of a table and a program -/
def itF (f : Fn) : List Item := .h f :: f.cls.map (Item.l f.w)
def itsF (fs : List Fn) : List Item := fs.flatMap itF
def itsA (t : Tb) : List Item := t.mks.map Item.m ++ (t.fams.map Item.f ++ t.cns.map Item.c)
def items (t : Tb) (fs : List Fn) : List Item := itsA t ++ itsF fs
theorem map_ll (f : Fn) : (itF f).map lineI = lineH f :: f.cls.map (lineL f.w) := by
  unfold itF
  rw [List.map_cons, List.map_map]; rfl
theorem line_itsF : ∀ fs : List Fn, (itsF fs).map lineI = linesF fs
  | [] => rfl
  | f :: r => by
    have := line_itsF r
    unfold itsF linesF at *
    rw [List.flatMap_cons, List.flatMap_cons, List.map_append, this, map_ll]
theorem line_items (t : Tb) (fs : List Fn) : (items t fs).map lineI = lines t fs := by
  unfold items itsA lines
  rw [List.map_append, List.map_append, List.map_append, line_itsF, List.map_map, List.map_map, List.map_map, List.append_assoc, List.append_assoc]
  rfl
theorem ItsOk.app : ∀ {a : List Item} {s : DS} {b : List Item}, ItsOk s a → ItsOk (a.foldl stp s) b → ItsOk s (a ++ b)
  | [], _, _, _, h => h
  | _ :: _, _, _, h, k => ⟨h.1, h.2.1, h.2.2.app k⟩
theorem its_m : ∀ (l : List (Str × Nat)) (s : DS), (∀ m ∈ l, WkB m.1 ∧ sok m.1 = true ∧ m.2 < 100) → s.ms.length + l.length ≤ 100 → s.fm.length ≤ 100 → s.cn.length ≤ 100 → s.fs.length ≤ 100 → (∀ f ∈ s.fs, f.cls.length ≤ 100) →
    ItsOk s (l.map Item.m) ∧ (l.map Item.m).foldl stp s = { s with ms := s.ms ++ l }
  | [], s, _, _, _, _, _, _ => ⟨trivial, by simp⟩
  | m :: r, s, h, h1, h2, h3, h4, h5 => by
    rw [List.length_cons] at h1
    obtain ⟨a, b⟩ := its_m r (stp s (.m m)) (fun x hx => h x (List.mem_cons_of_mem _ hx)) (by show (s.ms ++ [m]).length + _ ≤ _; rw [List.length_append, List.length_singleton]; omega) h2 h3 h4 h5
    refine ⟨⟨h m (List.mem_cons_self ..), ⟨by omega, h2, h3, h4, h5⟩, a⟩, ?_⟩
    rw [List.map_cons, List.foldl_cons, b]
    simp [stp]
theorem its_f : ∀ (l : List Str) (s : DS), (∀ z ∈ l, WkB z ∧ sok z = true) → s.ms.length ≤ 100 → s.fm.length + l.length ≤ 100 → s.cn.length ≤ 100 → s.fs.length ≤ 100 → (∀ f ∈ s.fs, f.cls.length ≤ 100) →
    ItsOk s (l.map Item.f) ∧ (l.map Item.f).foldl stp s = { s with fm := s.fm ++ l }
  | [], s, _, _, _, _, _, _ => ⟨trivial, by simp⟩
  | m :: r, s, h, h1, h2, h3, h4, h5 => by
    rw [List.length_cons] at h2
    obtain ⟨a, b⟩ := its_f r (stp s (.f m)) (fun x hx => h x (List.mem_cons_of_mem _ hx)) h1 (by show (s.fm ++ [m]).length + _ ≤ _; rw [List.length_append, List.length_singleton]; omega) h3 h4 h5
    refine ⟨⟨h m (List.mem_cons_self ..), ⟨h1, by omega, h3, h4, h5⟩, a⟩, ?_⟩
    rw [List.map_cons, List.foldl_cons, b]
    simp [stp]
theorem its_c : ∀ (l : List Cn) (s : DS), (∀ c ∈ l, CnW c.w c.ps c.md) → s.ms.length ≤ 100 → s.fm.length ≤ 100 → s.cn.length + l.length ≤ 100 → s.fs.length ≤ 100 → (∀ f ∈ s.fs, f.cls.length ≤ 100) →
    ItsOk s (l.map Item.c) ∧ (l.map Item.c).foldl stp s = { s with cn := s.cn ++ l }
  | [], s, _, _, _, _, _, _ => ⟨trivial, by simp⟩
  | m :: r, s, h, h1, h2, h3, h4, h5 => by
    rw [List.length_cons] at h3
    obtain ⟨a, b⟩ := its_c r (stp s (.c m)) (fun x hx => h x (List.mem_cons_of_mem _ hx)) h1 h2 (by show (s.cn ++ [m]).length + _ ≤ _; rw [List.length_append, List.length_singleton]; omega) h4 h5
    refine ⟨⟨h m (List.mem_cons_self ..), ⟨h1, h2, by omega, h4, h5⟩, a⟩, ?_⟩
    rw [List.map_cons, List.foldl_cons, b]
    simp [stp]
def ClW (c : Cl) : Prop := c.ps ≠ [] ∧ c.ps.length ≤ 3 ∧ (∀ p ∈ c.ps, TrW 3 p) ∧ TrW 3 c.b
theorem its_l (f : Fn) (hw : WkB f.w ∧ sok f.w = true) (g : List Fn) : ∀ (l : List Cl) (d : List Cl) (s : DS), s.fs = g ++ [{ f with cls := d }] → (∀ c ∈ l, ClW c) → s.ms.length ≤ 100 → s.fm.length ≤ 100 → s.cn.length ≤ 100 → g.length + 1 ≤ 100 → (∀ f ∈ g, f.cls.length ≤ 100) → d.length + l.length ≤ 100 →
    ItsOk s (l.map (Item.l f.w)) ∧ (l.map (Item.l f.w)).foldl stp s = { s with fs := g ++ [{ f with cls := d ++ l }] }
  | [], d, s, e, _, _, _, _, _, _, _ => ⟨trivial, by cases s; cases e; simp⟩
  | c :: r, d, s, e, h, h1, h2, h3, h4, h5, h6 => by
    rw [List.length_cons] at h6
    obtain ⟨w1, w2, w3, w4⟩ := h c (List.mem_cons_self ..)
    obtain ⟨a, b⟩ := its_l f hw g r (d ++ [c]) (stp s (.l f.w c)) (by show addCl s.fs c = _; rw [e, addCl_snoc]) (fun x hx => h x (List.mem_cons_of_mem _ hx)) h1 h2 h3 h4 h5 (by rw [List.length_append, List.length_singleton]; omega)
    refine ⟨⟨⟨hw.1, hw.2, w1, w2, w3, w4, g, _, e, rfl⟩, ⟨h1, h2, h3, by rw [e, List.length_append]; exact h4, fun x hx => ?_⟩, a⟩, ?_⟩
    · rw [e] at hx
      rcases List.mem_append.mp hx with hx | hx
      · exact h5 x hx
      · rw [List.mem_singleton.mp hx]; show d.length ≤ 100; omega
    · rw [List.map_cons, List.foldl_cons, b]
      simp [stp]
theorem its_F : ∀ (fs : List Fn) (s : DS), (∀ f ∈ fs, CnW f.w f.ps f.md ∧ f.ps ≠ [] ∧ f.falls < 100 ∧ f.cls.length ≤ 100 ∧ ∀ c ∈ f.cls, ClW c) → s.ms.length ≤ 100 → s.fm.length ≤ 100 → s.cn.length ≤ 100 → s.fs.length + fs.length ≤ 100 → (∀ f ∈ s.fs, f.cls.length ≤ 100) →
    ItsOk s (itsF fs) ∧ (itsF fs).foldl stp s = { s with fs := s.fs ++ fs }
  | [], s, _, _, _, _, _, _ => ⟨trivial, by simp [itsF]⟩
  | f :: r, s, h, h1, h2, h3, h4, h5 => by
    rw [List.length_cons] at h4
    obtain ⟨w1, w2, w3, w4, w5⟩ := h f (List.mem_cons_self ..)
    obtain ⟨a, b⟩ := its_l f ⟨w1.1, w1.2.1⟩ s.fs f.cls [] (stp s (.h f)) rfl w5 h1 h2 h3 (by omega) h5 (by simpa using w4)
    rw [List.nil_append] at b
    obtain ⟨a2, b2⟩ := its_F r { s with fs := s.fs ++ [f] } (fun x hx => h x (List.mem_cons_of_mem _ hx)) h1 h2 h3 (by show (s.fs ++ [f]).length + _ ≤ _; rw [List.length_append, List.length_singleton]; omega) (fun x hx => by
      rcases List.mem_append.mp hx with hx | hx
      · exact h5 x hx
      · rw [List.mem_singleton.mp hx]; exact w4)
    have e : itsF (f :: r) = (.h f :: f.cls.map (Item.l f.w)) ++ itsF r := by unfold itsF; rw [List.flatMap_cons]; rfl
    have k : (Item.h f :: f.cls.map (Item.l f.w)).foldl stp s = { s with fs := s.fs ++ [f] } := by rw [List.foldl_cons, b]; rfl
    rw [e]
    refine ⟨ItsOk.app ⟨⟨w1, w2, w3⟩, ⟨h1, h2, h3, by omega, h5⟩, a⟩ (by rw [k]; exact a2), ?_⟩
    rw [List.foldl_append, k, b2]
    simp
theorem wk_of {l : List Str} (h : (l.all fun z => wkb z && sok z) = true) : ∀ z ∈ l, WkB z ∧ sok z = true := fun z hz => by
  have := List.all_eq_true.mp h z hz
  rw [Bool.and_eq_true] at this
  exact ⟨wkb_of this.1, this.2⟩
theorem wk_MW : ∀ z ∈ MW, WkB z ∧ sok z = true := wk_of (by decide +kernel)
theorem wk_FW : ∀ z ∈ FW, WkB z ∧ sok z = true := wk_of (by decide +kernel)
theorem wk_CW : ∀ z ∈ CW, WkB z ∧ sok z = true := wk_of (by decide +kernel)
theorem wk_GW : ∀ z ∈ GW, WkB z ∧ sok z = true := wk_of (by decide +kernel)
theorem wk_KN : ∀ z ∈ KN, WkB z ∧ sok z = true := wk_of (by decide +kernel)
theorem wk_CN : ∀ z ∈ CN, WkB z ∧ sok z = true := wk_of (by decide +kernel)
theorem wk_app {C M : List Str} (h : ∀ z ∈ C, WkB z ∧ sok z = true) (k : ∀ z ∈ M, WkB z ∧ sok z = true) : ∀ z ∈ C ++ M, WkB z ∧ sok z = true := fun z hz => (List.mem_append.mp hz).elim (h z) (k z)
theorem kd_W {F L : List Str} (hF : ∀ z ∈ F, z ∈ FW) (hL : ∀ z ∈ L, z ∈ MW) {k : Kd} (h : KdOk F L KN k) : KdW k :=
  have l : ∀ z ∈ L, WkB z ∧ sok z = true := fun z hz => wk_MW z (hL z hz)
  ⟨(wk_FW _ (hF _ h.1)).1, (wk_FW _ (hF _ h.1)).2, L, KN, _, 1, by decide, h.2, l, wk_KN, wk_app l (wk_of (by decide +kernel))⟩
theorem tr_W {C M : List Str} (hC : ∀ z ∈ C, z ∈ CW) (hM : ∀ z ∈ M, WkB z ∧ sok z = true) {p : PV} (h : Tr C CN (C ++ M) 2 p) : TrW 3 p :=
  have l : ∀ z ∈ C, WkB z ∧ sok z = true := fun z hz => wk_CW z (hC z hz)
  ⟨C, CN, _, 2, by decide, h, l, wk_CN, wk_app l hM⟩
theorem wk_M1 : ∀ z ∈ (["Other"] : List Str), WkB z ∧ sok z = true := wk_of (by decide +kernel)
theorem wk_M2 : ∀ z ∈ (["f", "g", "con"] : List Str), WkB z ∧ sok z = true := wk_of (by decide +kernel)
def dsOf (t : Tb) (fs : List Fn) : DS := ⟨t.mks, t.fams, t.cns, fs⟩
theorem PgOk.its {t : Tb} {fs : List Fn} (h : PgOk t fs) : (ItsOk s0 (itsA t) ∧ (itsA t).foldl stp s0 = ⟨t.mks, t.fams, t.cns, []⟩) ∧ ItsOk s0 (itsF fs) ∧ (itsF fs).foldl stp s0 = ⟨[], [], [], fs⟩ := by
  obtain ⟨l5, l5', l6, l3⟩ := h.l5
  have hM : ∀ m ∈ t.mks, WkB m.1 ∧ sok m.1 = true ∧ m.2 < 100 := fun m hm => by
    obtain ⟨a, b, c, d⟩ := h.mkr hm
    exact ⟨(wk_MW _ a).1, (wk_MW _ a).2, d⟩
  have hC : ∀ c ∈ t.cns, CnW c.w c.ps c.md := fun c hc => by
    have k := h.tb.cn c hc
    exact ⟨(wk_CW _ k.w).1, (wk_CW _ k.w).2, k.l3, fun x hx => kd_W h.hF h.hL (k.ps x hx), kd_W h.hF h.hL k.md⟩
  have hG : ∀ f ∈ fs, CnW f.w f.ps f.md ∧ f.ps ≠ [] ∧ f.falls < 100 ∧ f.cls.length ≤ 100 ∧ ∀ c ∈ f.cls, ClW c := fun f hf => by
    have k := h.fn f hf
    have l1 := k.l1
    have l2 := k.l2
    refine ⟨⟨(wk_GW _ k.w).1, (wk_GW _ k.w).2, k.l3, fun x hx => kd_W h.hF h.hL (k.ps x hx), kd_W h.hF h.hL k.md⟩, fun e => by rw [e] at l1; simp at l1, k.falls, by omega, fun c hc => ?_⟩
    have kc := k.cls c hc
    have l3 := k.l3
    refine ⟨fun e => ?_, by rw [kc.l]; exact l3, fun p hp => tr_W h.hC wk_M1 (kc.ps p hp), tr_W h.hC wk_M2 kc.b⟩
    have := kc.l
    rw [e] at this
    simp at this
    omega
  obtain ⟨a1, b1⟩ := its_m t.mks s0 hM (by show 0 + _ ≤ _; omega) (by decide) (by decide) (by decide) (by intro f hf; cases hf)
  obtain ⟨a2, b2⟩ := its_f t.fams ⟨t.mks, [], [], []⟩ (fun z hz => wk_FW z (h.hF z hz)) (by show t.mks.length ≤ _; omega) (by show 0 + _ ≤ _; omega) (by show 0 ≤ 100; decide) (by show 0 ≤ 100; decide) (by intro f hf; cases hf)
  obtain ⟨a3, b3⟩ := its_c t.cns ⟨t.mks, t.fams, [], []⟩ hC (by show t.mks.length ≤ _; omega) (by show t.fams.length ≤ _; omega) (by show 0 + _ ≤ _; omega) (by show 0 ≤ 100; decide) (by intro f hf; cases hf)
  obtain ⟨a4, b4⟩ := its_F fs s0 hG (by decide) (by decide) (by decide) (by show 0 + _ ≤ _; omega) (by intro f hf; cases hf)
  simp only [s0, List.nil_append] at b1 b2 b3 b4 a1
  refine ⟨⟨?_, ?_⟩, a4, b4⟩
  · unfold s0 itsA
    refine ItsOk.app a1 ?_
    rw [b1]
    refine ItsOk.app a2 ?_
    rw [b2]
    exact a3
  · unfold s0 itsA
    rw [List.foldl_append, b1, List.foldl_append, b2, b3]
/-! #### two rows of items, mixed -/
def Fst : Item → Prop
  | .m _ | .f _ | .c _ => True
  | .h _ | .l _ _ => False
inductive Il : List Item → List Item → List Item → Prop
  | nil : Il [] [] []
  | l {a b o : List Item} {x : Item} (h : Il a b o) : Il (a ++ [x]) b (o ++ [x])
  | r {a b o : List Item} {x : Item} (h : Il a b o) : Il a (b ++ [x]) (o ++ [x])
def mix (s t : DS) : DS := ⟨s.ms, s.fm, s.cn, t.fs⟩
theorem ItsOk.pre : ∀ {a : List Item} {s : DS} {b : List Item}, ItsOk s (a ++ b) → ItsOk s a
  | [], _, _, _ => trivial
  | x :: a, s, b, h => ⟨h.1, h.2.1, ItsOk.pre (a := a) (s := stp s x) h.2.2⟩
theorem Il.ok {a b o : List Item} (h : Il a b o) : ItsOk s0 a → ItsOk s0 b → DsB (a.foldl stp s0) → DsB (b.foldl stp s0) → (∀ x ∈ a, Fst x) → (∀ x ∈ b, ¬ Fst x) → ItsOk s0 o ∧ o.foldl stp s0 = mix (a.foldl stp s0) (b.foldl stp s0) := by
  induction h with
  | nil => intro _ _ _ _ _ _; exact ⟨trivial, rfl⟩
  | @l a b o x h ih =>
    intro ha hb da db fa fb
    obtain ⟨io, ib⟩ := ItsOk.mid (a := a) (it := x) (b := []) ha
    obtain ⟨k1, k2⟩ := ih ha.pre hb ib db (fun y hy => fa y (List.mem_append_left _ hy)) fb
    have fx := fa x (by simp)
    have hm : ItOk (mix (a.foldl stp s0) (b.foldl stp s0)) x ∧ stp (mix (a.foldl stp s0) (b.foldl stp s0)) x = mix (stp (a.foldl stp s0) x) (b.foldl stp s0) := by
      cases x with
      | m y => exact ⟨io, rfl⟩
      | f y => exact ⟨io, rfl⟩
      | c y => exact ⟨io, rfl⟩
      | h y => exact absurd fx id
      | l w y => exact absurd fx id
    refine ⟨k1.app (by rw [k2]; exact ⟨hm.1, ⟨ib.1, ib.2.1, ib.2.2.1, db.2.2.2.1, db.2.2.2.2⟩, trivial⟩), ?_⟩
    rw [List.foldl_append, k2, List.foldl_append]
    exact hm.2
  | @r a b o x h ih =>
    intro ha hb da db fa fb
    obtain ⟨io, ib⟩ := ItsOk.mid (a := b) (it := x) (b := []) hb
    obtain ⟨k1, k2⟩ := ih ha hb.pre da ib fa (fun y hy => fb y (List.mem_append_left _ hy))
    have fx := fb x (by simp)
    have hm : ItOk (mix (a.foldl stp s0) (b.foldl stp s0)) x ∧ stp (mix (a.foldl stp s0) (b.foldl stp s0)) x = mix (a.foldl stp s0) (stp (b.foldl stp s0) x) := by
      cases x with
      | m y => exact absurd trivial fx
      | f y => exact absurd trivial fx
      | c y => exact absurd trivial fx
      | h y => exact ⟨io, rfl⟩
      | l w y => exact ⟨io, rfl⟩
    refine ⟨k1.app (by rw [k2]; exact ⟨hm.1, ⟨da.1, da.2.1, da.2.2.1, ib.2.2.2.1, ib.2.2.2.2⟩, trivial⟩), ?_⟩
    rw [List.foldl_append, k2, List.foldl_append]
    exact hm.2
theorem fst_A {t : Tb} : ∀ x ∈ itsA t, Fst x := fun x hx => by
  unfold itsA at hx
  simp only [List.mem_append, List.mem_map] at hx
  rcases hx with ⟨y, _, rfl⟩ | ⟨y, _, rfl⟩ | ⟨y, _, rfl⟩ <;> trivial
theorem fst_F {fs : List Fn} : ∀ x ∈ itsF fs, ¬ Fst x := fun x hx => by
  unfold itsF itF at hx
  simp only [List.mem_flatMap, List.mem_cons, List.mem_map] at hx
  obtain ⟨f, _, rfl | ⟨c, _, rfl⟩⟩ := hx <;> exact id
/-- any mixture of a table's and a program's items tells them -/
theorem PgOk.mix {t : Tb} {fs : List Fn} (h : PgOk t fs) {o : List Item} (i : Il (itsA t) (itsF fs) o) : ItsOk s0 o ∧ o.foldl stp s0 = dsOf t fs := by
  obtain ⟨⟨a1, a2⟩, b1, b2⟩ := h.its
  obtain ⟨l5, l5', l6, l3⟩ := h.l5
  obtain ⟨k1, k2⟩ := i.ok a1 b1 (by rw [a2]; exact ⟨Nat.le_trans l5 (by decide), Nat.le_trans l5' (by decide), Nat.le_trans l6 (by decide), Nat.zero_le _, fun f hf => by cases hf⟩) (by rw [b2]; exact ⟨Nat.zero_le _, Nat.zero_le _, Nat.zero_le _, Nat.le_trans l3 (by decide), fun f hf => Nat.le_trans (h.fn f hf).l2 (by decide)⟩) fst_A fst_F
  exact ⟨k1, by rw [k2, a2, b2]; rfl⟩
theorem il_right : ∀ (b : List Item) {a c o : List Item}, Il a c o → Il a (c ++ b) (o ++ b)
  | [], _, _, _, h => by rw [List.append_nil, List.append_nil]; exact h
  | x :: b, a, c, o, h => by
    have := il_right b (h.r (x := x))
    rwa [List.append_assoc, List.append_assoc] at this
theorem il_left : ∀ (b : List Item) {a c o : List Item}, Il a c o → Il (a ++ b) c (o ++ b)
  | [], _, _, _, h => by rw [List.append_nil, List.append_nil]; exact h
  | x :: b, a, c, o, h => by
    have := il_left b (h.l (x := x))
    rwa [List.append_assoc, List.append_assoc] at this
theorem il_app (a b : List Item) : Il a b (a ++ b) := by
  have := il_right b (il_left a Il.nil)
  simpa using this
theorem LnOk.up {x : List Nat} {T : List (List Nat)} {n m : Nat} (h : LnOk x T n) (l : n ≤ m) : LnOk x T m := ⟨h.tk, h.ok, Nat.le_trans h.len l, h.op⟩
theorem PgOk.itLn {t : Tb} {fs : List Fn} (h : PgOk t fs) : ∀ it ∈ items t fs, LnOk (lineI it) (tokI it) 900 := fun it hi => by
  unfold items itsA itsF itF at hi
  simp only [List.mem_append, List.mem_map, List.mem_flatMap, List.mem_cons] at hi
  rcases hi with (⟨m, hm, rfl⟩ | ⟨z, hz, rfl⟩ | ⟨c, hc, rfl⟩) | ⟨f, hf, rfl | ⟨c, hc, rfl⟩⟩
  · exact (h.lnM m hm).up (by decide)
  · exact (h.lnF z hz).up (by decide)
  · exact (h.lnC c hc).up (by decide)
  · exact (h.lnH f hf).up (by decide)
  · exact (h.lnL f hf c hc).up (by decide)
theorem PgOk.itNe {t : Tb} {fs : List Fn} (h : PgOk t fs) : items t fs ≠ [] := fun e => by
  have h1 := h.tb.f1
  have := congrArg List.length e
  unfold items itsA at this
  simp only [List.length_append, List.length_map, List.length_nil] at this
  omega
theorem PgOk.itLe {t : Tb} {fs : List Fn} (h : PgOk t fs) : (items t fs).length ≤ 100 := by
  have := lines_le h
  rw [← line_items, List.length_map] at this
  exact this
/-! #### what the declarations give back -/
theorem dl_kd {F L : List Str} (hL : ∀ z ∈ L, z ∈ MW) {k : Kd} (h : KdOk F L KN k) : Dl L k.tm :=
  ⟨h.2.rw.up, h.2.dcl fun z hz hm => (by decide +kernel : ∀ z ∈ KN, z ∉ MW) z hz (hL z hm)⟩
theorem dl_tr {C M : List Str} (hC : ∀ z ∈ C, z ∈ CW) {p : PV} (h : Tr C CN (C ++ M) 2 p) : Dl C p :=
  ⟨h.rw, h.dcl fun z hz hm => (by decide +kernel : ∀ z ∈ CN, z ∉ CW) z hz (hC z hm)⟩
theorem PgOk.ds {t : Tb} {fs : List Fn} (h : PgOk t fs) : DsOk (dsOf t fs) := by
  obtain ⟨l5, l5', l6, l3⟩ := h.l5
  refine ⟨Nat.le_trans l5 (by decide), Nat.le_trans l5' (by decide), Nat.le_trans l6 (by decide), Nat.le_trans l3 (by decide), fun c hc => ?_, fun f hf => ?_⟩
  · have k := h.tb.cn c hc
    exact ⟨k.l3, fun x hx => dl_kd h.hL (k.ps x hx), dl_kd h.hL k.md⟩
  · have k := h.fn f hf
    refine ⟨k.l3, fun x hx => dl_kd h.hL (k.ps x hx), dl_kd h.hL k.md, Nat.le_trans k.l2 (by decide), fun c hc => ?_⟩
    have kc := k.cls c hc
    exact ⟨by rw [kc.l]; exact k.l3, fun p hp => dl_tr h.hC (kc.ps p hp), dl_tr h.hC kc.b⟩
/-! #### how wide and deep it all is -/
theorem Tr.wb {L N B : List Str} : ∀ {n : Nat} {t : PV}, Tr L N B n t → Wb (n + 2) t := by
  intro n
  induction n with
  | zero =>
    intro t h
    rcases h.cases with ⟨z, rfl, hz⟩ | ⟨w, rfl, hw⟩ | ⟨w, r, m, rfl, e, _⟩
    · trivial
    · exact ⟨by simp, fun x hx => by rw [List.mem_singleton.mp hx]; trivial⟩
    · omega
  | succ n ih =>
    intro t h
    rcases h.cases with ⟨z, rfl, hz⟩ | ⟨w, rfl, hw⟩ | ⟨w, r, m, rfl, e, hr, hw, hl, ht⟩
    · trivial
    · exact ⟨by simp, fun x hx => by rw [List.mem_singleton.mp hx]; trivial⟩
    · cases e
      refine ⟨by rw [List.length_cons]; omega, fun x hx => ?_⟩
      rcases List.mem_cons.mp hx with rfl | hx
      · trivial
      · exact ih (ht x hx)
theorem wb_str {n : Nat} {z : Str} : Wb (n + 1) (.str z) := trivial
theorem wb_int {n : Nat} {z : Int} : Wb (n + 1) (.int z) := trivial
theorem wb_tup {n : Nat} {ts : List PV} (l : ts.length ≤ 100) (h : ∀ t ∈ ts, Wb n t) : Wb (n + 1) (.tup ts) := ⟨l, h⟩
theorem wb_map {α : Type} {n : Nat} {l : List α} {f : α → PV} (k : l.length ≤ 100) (h : ∀ x ∈ l, Wb n (f x)) : Wb (n + 1) (.tup (l.map f)) := ⟨by rw [List.length_map]; exact k, fun t ht => by obtain ⟨x, hx, rfl⟩ := List.mem_map.mp ht; exact h x hx⟩
theorem all_nil {P : PV → Prop} : ∀ t ∈ ([] : List PV), P t := fun t h => by cases h
theorem all_cons {P : PV → Prop} {a : PV} {r : List PV} (h : P a) (k : ∀ t ∈ r, P t) : ∀ t ∈ a :: r, P t := fun t ht => (List.mem_cons.mp ht).elim (fun e => e ▸ h) (k t)
theorem wb_kd {F L : List Str} {k : Kd} (h : KdOk F L KN k) : Wb 4 (kdP k) := wb_tup (by simp) (all_cons wb_str (all_cons h.2.wb all_nil))
theorem PgOk.wbT {t : Tb} {fs : List Fn} (h : PgOk t fs) : Wb 10 (tabP t) := by
  obtain ⟨l5, l5', l6, l3⟩ := h.l5
  refine (wb_tup (n := 7) (by simp) (all_cons wb_str (all_cons ?_ (all_cons ?_ (all_cons ?_ all_nil))))).mono (by decide)
  · exact (wb_map (n := 2) (by omega) fun m hm => wb_tup (by simp) (all_cons wb_str (all_cons wb_int all_nil))).mono (by decide)
  · exact (wb_map (n := 1) (by omega) fun z hz => wb_str).mono (by decide)
  · refine wb_map (by omega) fun c hc => wb_tup (n := 5) (by simp) ?_
    have k := h.tb.cn c hc
    have := k.l3
    exact all_cons wb_str (all_cons (wb_map (by omega) fun x hx => wb_kd (k.ps x hx)) (all_cons wb_str (all_cons (k.md.2.wb.mono (by decide)) all_nil)))
theorem PgOk.wbP {t : Tb} {fs : List Fn} (h : PgOk t fs) : Wb 10 (prgP fs) := by
  obtain ⟨l5, l5', l6, l3⟩ := h.l5
  refine wb_tup (n := 9) (by simp) (all_cons wb_str (all_cons ?_ all_nil))
  refine wb_map (by omega) fun f hf => wb_tup (n := 7) (by simp) ?_
  have k := h.fn f hf
  have l3' := k.l3
  have l2 := k.l2
  refine all_cons wb_str (all_cons ((wb_map (n := 4) (by omega) fun x hx => wb_kd (k.ps x hx)).mono (by decide)) (all_cons wb_str (all_cons (k.md.2.wb.mono (by decide)) (all_cons wb_int (all_cons ?_ all_nil)))))
  refine wb_map (by omega) fun c hc => wb_tup (n := 5) (by simp) ?_
  have kc := k.cls c hc
  have := kc.l
  exact all_cons ⟨by omega, fun p hp => (kc.ps p hp).wb⟩ (all_cons (kc.b.wb.mono (by decide)) all_nil)
theorem PgOk.wb {t : Tb} {fs : List Fn} (h : PgOk t fs) : Wb 11 (.tup [tabP t, prgP fs]) := wb_tup (by simp) (all_cons h.wbT (all_cons h.wbP all_nil))
end
end Kx
namespace Kx
open PySem PySem.Spec PyProof.Rows L2
section
variable {P : Program} {w : World} {K : PySem.W.Frag} {mg : Str → Option Value} {base : Heap}
set_option pp.maxSteps 1200
/-! ### tokens spread with spaces -/
theorem toks_blk : ∀ (n : Nat), Toks (blk n) []
  | 0 => .nil
  | n + 1 => .sp (toks_blk n)
theorem toks_nil {T : List (List Nat)} {l : List Nat} (h : Toks l T) (e : l = []) : T = [] := by
  cases h with
  | nil => rfl
  | sp h => cases e
  | word n a s h =>
    exact absurd (List.append_eq_nil_iff.mp e).1 n
  | arrow h => cases e
  | sign a n m h => cases e
theorem toks_more {l : List Nat} {T : List (List Nat)} (h : Toks l T) (n : Nat) : Toks (l ++ blk n) T := by
  induction h with
  | nil => exact toks_blk n
  | sp h ih => exact .sp ih
  | @word w l T ne a s h ih =>
    rw [List.append_assoc]
    refine .word ne a (fun c r e => ?_) ih
    cases l with
    | nil =>
      cases n with
      | zero => cases e
      | succ n => cases e; exact al_32
    | cons d l => cases e; exact s _ _ rfl
  | arrow h ih => exact .arrow ih
  | sign a n m h ih => exact .sign a n m ih
/-- one token -/
inductive Pck : List Nat → Prop
  | w {p : List Nat} (n : p ≠ []) (a : ∀ c ∈ p, isAl c = true) : Pck p
  | ar : Pck [45, 62]
  | sg {c : Nat} (a : isAl c = false) (n : c ≠ 32) (m : c ≠ 45) : Pck [c]
theorem toks_pck {l : List Nat} {T : List (List Nat)} (h : Toks l T) : ∀ p ∈ T, Pck p := by
  induction h with
  | nil => intro p hp; cases hp
  | sp h ih => exact ih
  | word n a s h ih => exact fun p hp => (List.mem_cons.mp hp).elim (fun e => e ▸ .w n a) (ih p)
  | arrow h ih => exact fun p hp => (List.mem_cons.mp hp).elim (fun e => e ▸ .ar) (ih p)
  | sign a n m h ih => exact fun p hp => (List.mem_cons.mp hp).elim (fun e => e ▸ .sg a n m) (ih p)
theorem pck_ne {p : List Nat} (h : Pck p) : p ≠ [] := by
  cases h with
  | w n _ => exact n
  | ar => simp
  | sg _ _ _ => simp
theorem toks_one {p : List Nat} (h : Pck p) : ∀ n : Nat, Toks (blk n ++ p) [p]
  | 0 => by
    show Toks p [p]
    cases h with
    | w n a =>
      have := Toks.word n a (l := []) (T := []) (fun c r e => by cases e) .nil
      rwa [List.append_nil] at this
    | ar => exact .arrow .nil
    | sg a n m => exact .sign a n m .nil
  | n + 1 => .sp (toks_one h n)
/-- there must be a space between -/
def Gap (T : List (List Nat)) (p : List Nat) (m : Nat) : Prop := ∀ w, T.getLast? = some w → ∀ c, w.getLast? = some c → isAl c = true → ∀ d, p.head? = some d → isAl d = true → 1 ≤ m
theorem toks_snoc {p : List Nat} {m : Nat} (hp : Pck p) {l : List Nat} {T : List (List Nat)} (h : Toks l T) : Gap T p m → Toks (l ++ (blk m ++ p)) (T ++ [p]) := by
  have sub : ∀ {w : List Nat} {T : List (List Nat)}, Gap (w :: T) p m → Gap T p m := fun {w T} g x hx => g x (by
    cases T with
    | nil => cases hx
    | cons a r => rw [List.getLast?_cons_cons]; exact hx)
  induction h with
  | nil => intro _; exact toks_one hp m
  | sp h ih => intro g; exact .sp (ih g)
  | @word w l T ne a s h ih =>
    intro g
    rw [List.append_assoc]
    refine .word ne a (fun c r e => ?_) (ih (sub g))
    cases l with
    | cons d l => cases e; exact s _ _ rfl
    | nil =>
      cases m with
      | succ m => cases e; exact al_32
      | zero =>
        have e : p = c :: r := e
        have hT := toks_nil h rfl
        subst hT
        cases hc : isAl c with
        | false => rfl
        | true =>
          obtain ⟨z, hz⟩ : ∃ z, w.getLast? = some z := ⟨_, List.getLast?_eq_some_getLast ne⟩
          have hm : z ∈ w := List.mem_of_getLast? hz
          have := g w rfl z hz (a z hm) c (by rw [e]; rfl) hc
          omega
  | arrow h ih => intro g; exact .arrow (ih (sub g))
  | sign a n k h ih => intro g; exact .sign a n k (ih (sub g))
theorem toks_35 {l : List Nat} {T : List (List Nat)} (h : Toks l T) : ∀ {U : List (List Nat)}, T = [35] :: U → ∃ n r, l = blk n ++ 35 :: r := by
  induction h with
  | nil => intro U e; cases e
  | sp h ih =>
    intro U e
    obtain ⟨n, r, rfl⟩ := ih e
    exact ⟨n + 1, r, rfl⟩
  | @word w l T ne a s h ih =>
    intro U e
    cases e
    exact absurd (a 35 (by simp)) (by decide +kernel)
  | arrow h ih => intro U e; cases e
  | sign a n k h ih => intro U e; cases e; exact ⟨0, _, rfl⟩
/-! #### letters -/
abbrev LET : Str := "abcdefghijklmnopqrstuvwxyzABCDEFGHIJKLMNOPQRSTUVWXYZ0123456789"
theorem let_al : ∀ c : Nat, c < 127 → decide (c ∈ LET.cps.toList) = isAl c := by decide +kernel
def spLet : Sp := fun vs H Q _ => ∃ c : Nat, vs = [.str ⟨#[c]⟩] ∧ c < 127 ∧ Q (.bl (isAl c)) H
theorem ok_law_is_letter (T : Txt K mg)  : FnOk P w K mg base CX0 1 T.a_law_is_letter T.d_law_is_letter ["char"] spLet := by
  refine T.F_law_is_letter.ok sc_law_is_letter (fun vs H Q E h => ?_) (fun cdv A outer s H vs Q E hr h => ?_)
  · obtain ⟨c, rfl, _⟩ := h; rfl
  · obtain ⟨c, rfl, h, q⟩ := h
    refine ⟨_, (pss_one (ps_ret (pe_cmpR op_in_sign (pv 0) pe_str (by rfl)))), ?_⟩
    refine ⟨_, rfl, c, LET, rfl, rfl, ?_⟩
    rw [let_al c h]; exact q
end
end Kx
namespace Kx
open PySem PySem.Spec PyProof.Rows L2
section
variable {P : Program} {w : World} {K : PySem.W.Frag} {mg : Str → Option Value} {base : Heap}
set_option pp.maxSteps 1500
/-! ### the law's spreading -/
theorem toks_mem {l : List Nat} {T : List (List Nat)} (h : Toks l T) : ∀ p ∈ T, ∀ c ∈ p, c ∈ l := by
  induction h with
  | nil => intro p hp; cases hp
  | sp h ih => exact fun p hp c hc => List.mem_cons_of_mem _ (ih p hp c hc)
  | @word w l T n a s h ih => exact fun p hp c hc => (List.mem_cons.mp hp).elim (fun e => List.mem_append_left _ (e ▸ hc)) fun k => List.mem_append_right _ (ih p k c hc)
  | arrow h ih =>
    intro p hp c hc
    rcases List.mem_cons.mp hp with rfl | k
    · simp only [List.mem_cons, List.not_mem_nil, or_false] at hc ⊢
      rcases hc with rfl | rfl <;> simp
    · exact List.mem_cons_of_mem _ (List.mem_cons_of_mem _ (ih p k c hc))
  | sign a n m h ih => exact fun p hp c hc => (List.mem_cons.mp hp).elim (fun e => by rw [e] at hc; rw [List.mem_singleton.mp hc]; exact List.mem_cons_self ..) fun k => List.mem_cons_of_mem _ (ih p k c hc)
theorem toks_flat {l : List Nat} {T : List (List Nat)} (h : Toks l T) : T.flatten.length ≤ l.length := by
  induction h with
  | nil => exact Nat.le_refl _
  | sp h ih => rw [List.length_cons]; omega
  | word n a s h ih => rw [List.flatten_cons, List.length_append, List.length_append]; omega
  | arrow h ih => rw [List.flatten_cons, List.length_append, List.length_cons, List.length_cons, List.length_cons, List.length_cons, List.length_nil]; omega
  | sign a n m h ih => rw [List.flatten_cons, List.length_append, List.length_cons, List.length_cons, List.length_nil]; omega
theorem flat_len2 {T : List (List Nat)} (h : ∀ p ∈ T, Pck p) : T.length ≤ T.flatten.length := by
  induction T with
  | nil => exact Nat.le_refl _
  | cons p r ih =>
    have h1 := ih fun x hx => h x (List.mem_cons_of_mem _ hx)
    have h2 := List.length_pos_iff.mpr (pck_ne (h p (List.mem_cons_self ..)))
    rw [List.length_cons, List.flatten_cons, List.length_append]; omega
theorem mem_flat {T : List (List Nat)} {p : List Nat} (h : p ∈ T) : p.length ≤ T.flatten.length := by
  induction T with
  | nil => cases h
  | cons a r ih =>
    rw [List.flatten_cons, List.length_append]
    rcases List.mem_cons.mp h with rfl | h
    · omega
    · have := ih h; omega
theorem flat_take (T : List (List Nat)) (j : Nat) : (T.take j).flatten.length ≤ T.flatten.length := by
  conv => rhs; rw [← List.take_append_drop j T, List.flatten_append, List.length_append]
  omega
theorem cut_two {x : List Nat} {k : Nat} (h1 : k ≤ x.length) : cutS (mkS x) (some (k : Int)) (some ((k : Int) + 2)) = mkS ((x.drop k).take 2) := by
  unfold cutS
  rw [show (k : Int) + 2 = ((k + 2 : Nat) : Int) from rfl, HT.sIx_nat, HT.sIx_nat, mk_len, Nat.min_eq_left h1]
  show (⟨(((cs (mkS x)).drop k).take (min (k + 2) x.length - k)).toArray⟩ : Str) = _
  rw [cs_mk]
  congr 2
  by_cases h : k + 2 ≤ x.length
  · rw [Nat.min_eq_left h]; congr 1; omega
  · rw [Nat.min_eq_right (by omega), List.take_of_length_le (by rw [List.length_drop]; omega), List.take_of_length_le (by rw [List.length_drop]; omega)]
theorem gap_nil {p : List Nat} {m : Nat} : Gap [] p m := fun w e => by cases e
theorem gap_head {T : List (List Nat)} {p : List Nat} {m a : Nat} (h : p[0]? = some a) (n : isAl a = false) : Gap T p m := fun w _ c _ _ d hd hb => by
  rw [List.head?_eq_getElem?, h] at hd
  cases hd
  rw [n] at hb; cases hb
theorem gap_last {T : List (List Nat)} {w p : List Nat} {m a : Nat} (hT : T.getLast? = some w) (h : w.getLast? = some a) (n : isAl a = false) : Gap T p m := fun w2 e c hc ha d _ _ => by
  rw [hT] at e
  cases e
  rw [h] at hc
  cases hc
  rw [n] at ha; cases ha
theorem gap_up {T : List (List Nat)} {p : List Nat} {m : Nat} (h : Gap T p 0) : Gap T p m := fun w e c hc ha d hd hb => absurd (h w e c hc ha d hd hb) (by omega)
theorem gap_one {T : List (List Nat)} {p : List Nat} {m : Nat} (h : 1 ≤ m) : Gap T p m := fun _ _ _ _ _ _ _ _ => h
abbrev ENDS : List Str := ["", " ", "# maker zero 0 (", "   #", "#->!~"]
def spSpread : Sp := fun vs H Q _ => ∃ (d c : Addr) (l : List Nat) (T : List (List Nat)), vs = [.ref d, SV l] ∧ Dr H d c ∧ Toks l T ∧ OkR l ∧ l.length ≤ 900 ∧
  ∀ (y : List Nat) (e : Str) H', Toks y T → (∀ a ∈ y, a = 32 ∨ a ∈ l) → y.length ≤ 4000 → e ∈ ENDS → Ex d c H H' → Dr H' d c → Q (SV (y ++ cs e)) H'
theorem ok_law_spread (T : Txt K mg) (G_law_is_letter : FnOk P w K mg base CX0 1 T.a_law_is_letter T.d_law_is_letter ["char"] spLet) (G_law_draw : FnOk P w K mg base CX0 1 T.a_law_draw T.d_law_draw ["state", "many"] spDraw) (G_law_pick : FnOk P w K mg base CX0 2 T.a_law_pick T.d_law_pick ["state", "row"] (spPick K)) : FnOk P w K mg base CX0 3 T.a_law_spread T.d_law_spread ["state", "line"] spSpread := by
  refine T.F_law_spread.ok sc_law_spread (fun vs H Q E h => ?_) (fun cdv A outer s H vs Q E hr h => ?_)
  · obtain ⟨d, c, l, U, rfl, _⟩ := h; rfl
  · obtain ⟨d, c, l, U, rfl, D0, hT, hO, hl, q⟩ := h
    have hr_law_is_letter : Room 1 _ := hr.mono (by decide)
    have hr_law_draw : Room 1 _ := hr.mono (by decide)
    have hr_law_pick : Room 2 _ := hr
    refine ⟨_, (pss_cons (ps_set (i := 2) sc_law_spread.nd rfl (Or.inl rfl) (pe_lst pa_nil))
    (pss_cons (ps_set (i := 3) sc_law_spread.nd rfl (Or.inl rfl) pe_int)
    (pss_cons (ps_while PassesOwn.never (pt_cmpR op_lt (pv 3) (pe_callB call_len_str (by rfl) T.z_len (by decide +kernel) (pa_cons (pv 1) pa_nil)) (nomark _))
    (pss_cons (ps_set (i := 4) sc_law_spread.nd rfl (Or.inl rfl) (pe_op op_add (pv 3) pe_int))
    (Evl.pss_cut (ps_if (pt_val (pe_call G_law_is_letter hr_law_is_letter rfl T.m_law_is_letter T.F_law_is_letter.kp T.b_law_is_letter .nil pass0 (pa_cons (pe_ix ix_str (pv 1) (pv 3) (fun _ _ => rfl)) pa_nil))) (pss_one (ps_while PassesOwn.never (PW.pt (pw_and (pt_cmpR op_lt (pv 4) (pe_callB call_len_str (by rfl) T.z_len (by decide +kernel) (pa_cons (pv 1) pa_nil)) (nomark _)) (pw_and1 (pt_val (pe_call G_law_is_letter hr_law_is_letter rfl T.m_law_is_letter T.F_law_is_letter.kp T.b_law_is_letter .nil pass0 (pa_cons (pe_ix ix_str (pv 1) (pv 4) (fun _ _ => rfl)) pa_nil))))))
    (pss_one (ps_aug (i := 4) sc_law_spread.nd rfl (Or.inl rfl) pe_int ip_add)))) (pss_one (ps_if (pt_cmpR op_eq (pe_slice sl_str (pv 1) (po_some (pv 3)) (po_some (pe_op op_add (pv 3) pe_int))) pe_str (nomark _)) (pss_one (ps_set (i := 4) sc_law_spread.nd rfl (Or.inl rfl) (pe_op op_add (pv 3) pe_int))) pss_nil)))
    (pss_cons (ps_if (pt_cmpR op_ne (pe_ix ix_str (pv 1) (pv 3) (fun _ _ => rfl)) pe_str (nomark _)) (pss_one (ps_expr (pe_bm PySem.F.plainAttrs_list PySem.F.slot_list_append PySem.F.type_list_append mt_append (pv 2) (pa_cons (pe_slice sl_str (pv 1) (po_some (pv 3)) (po_some (pv 4))) pa_nil)))) pss_nil)
    (pss_one (ps_set (i := 3) sc_law_spread.nd rfl (Or.inl rfl) (pv 4)))))))
    (pss_cons (ps_set (i := 5) sc_law_spread.nd rfl (Or.inl rfl) (pe_op op_mulB pe_str (pe_call G_law_draw hr_law_draw rfl T.m_law_draw T.F_law_draw.kp T.b_law_draw .nil pass0 (pa_cons (pv 0) (pa_cons pe_int pa_nil)))))
    (pss_cons (ps_for PassesOwn.never rfl (pi_range1 (by rfl) T.z_range (pa_cons (pe_callB call_len_seq (by rfl) T.z_len (by decide +kernel) (pa_cons (pv 2) pa_nil)) pa_nil)) (pg_name (i := 6) sc_law_spread.nd rfl (Or.inl rfl))
    (pss_cons (ps_set (i := 7) sc_law_spread.nd rfl (Or.inl rfl) (pe_callTy call_int1 (by rfl) T.z_int (by decide +kernel) (pa_cons (pe_cut (pe_and (pe_cmpR op_gt (pv 6) pe_int (nomark _)) (pe_and (pe_call G_law_is_letter hr_law_is_letter rfl T.m_law_is_letter T.F_law_is_letter.kp T.b_law_is_letter .nil pass0 (pa_cons (pe_ix ix_str (pe_ix ix_list (pv 2) (pv 6) (fun _ _ => rfl)) pe_int (fun _ _ => rfl)) pa_nil)) (pe_one (pe_call G_law_is_letter hr_law_is_letter rfl T.m_law_is_letter T.F_law_is_letter.kp T.b_law_is_letter .nil pass0 (pa_cons (pe_ix ix_str (pe_ix ix_list (pv 2) (pe_op op_sub (pv 6) pe_int) (fun _ _ => rfl)) (pe_un un_neg pe_int) (fun _ _ => rfl)) pa_nil)))))) pa_nil)))
    (pss_one (ps_set (i := 5) sc_law_spread.nd rfl (Or.inl rfl) (pe_op op_add_str (pe_op op_add_str (pv 5) (pe_op op_mulB pe_str (pe_op op_add (pv 7) (pe_call G_law_draw hr_law_draw rfl T.m_law_draw T.F_law_draw.kp T.b_law_draw .nil pass0 (pa_cons (pv 0) (pa_cons pe_int pa_nil)))))) (pe_ix ix_list (pv 2) (pv 6) (fun _ _ => rfl)))))))
    (pss_one (ps_ret (pe_op op_add_str (pv 5) (pe_call G_law_pick hr_law_pick rfl T.m_law_pick T.F_law_pick.kp T.b_law_pick .nil pass0 (pa_cons (pv 0) (pa_cons (pe_lst (pa_cons pe_str (pa_cons pe_str (pa_cons pe_str (pa_cons pe_str (pa_cons pe_str pa_nil)))))) pa_nil))))))))))), ?_⟩
    have hlen : (mkS l).length = l.length := mk_len _
    refine ⟨by decide, fun p hp => ?_⟩
    have lt127 : ∀ {c : Nat}, c ∈ l → c < 127 := fun h => by have := (hO _ h).2.1; omega
    refine ⟨fun m σ H' => ∃ (k : Nat) (T1 T2 : List (List Nat)) (y : Option V), σ = [some (.ref d), some (SV l), some (.ref p), some (.int k), y, none, none, none] ∧ k ≤ l.length ∧ Toks (l.drop k) T2 ∧ U = T1 ++ T2 ∧ T1.length ≤ k ∧ Same H H' ∧ H' p = some (.lst (T1.map SV)) ∧ m = l.length - k, ⟨_, 0, [], U, _, rfl, Nat.zero_le _, hT, rfl, Nat.zero_le _, same_upd hp _, upd_same, rfl⟩, ?_⟩
    rintro m σ H' ⟨k, T1, T2, y, rfl, hk, hT2, rfl, h1, s1, e1, rfl⟩
    refine ⟨_, rfl, _, rfl, _, rfl, small7 (by omega), _, _, rfl, rfl, _, rfl, ?_⟩
    by_cases hkl : k < l.length
    case neg =>
      rw [show decide ((k : Int) < ((mkS l).length : Int)) = false from decide_eq_false (by omega)]
      have : T2 = [] := toks_nil hT2 (List.drop_eq_nil_of_le (by omega))
      subst this
      rw [List.append_nil] at hT q
      refine iteF ?_
      have D2 := D0.same s1
      obtain ⟨npd, npc⟩ := D0.free hp
      have pk := toks_pck hT
      have fl := toks_flat hT
      refine ⟨_, rfl, d, c, 3, rfl, D2, by omega, by omega, fun r H5 r0 r3 x5 D5 => ?_⟩
      obtain ⟨n, rfl⟩ : ∃ n : Nat, r = (n : Int) := ⟨r.toNat, by omega⟩
      refine ⟨n, rfl, rfl, by omega, ?_⟩
      have ep5 : H5 p = some (.lst (T1.map SV)) := x5.but _ _ npd npc e1
      refine ⟨_, rfl, p, _, rfl, .inl (SqL.of ep5), ((T1.map SV).length : Int), rfl, by omega, by rw [List.length_map]; have := flat_len2 pk; omega, ?_⟩
      refine for_range (n := (((T1.map SV).length : Nat) : Int).toNat) (fun i σ H' => ∃ (y5 : List Nat) (y7 y8 : Option V), σ = [some (.ref d), some (SV l), some (.ref p), some (.int k), y, some (SV y5), y7, y8] ∧ Toks y5 (T1.take i) ∧ (∀ a ∈ y5, a = 32 ∨ a ∈ l) ∧ y5.length ≤ 2 + 4 * (T1.take i).flatten.length ∧ Ex d c H H' ∧ Dr H' d c ∧ H' p = some (.lst (T1.map SV))) ?_ ?_ ?_
      · refine ⟨blk n, _, _, rfl, toks_blk n, fun a ha => .inl (List.eq_of_mem_replicate ha), ?_, (Ex.of s1).trans x5, D5, ep5⟩
        unfold blk; rw [List.length_replicate]; omega
      · rintro i σ H6 hi ⟨y5, y7, y8, rfl, k1, k2, k3, x6, D6, ep6⟩
        rw [List.length_map] at hi
        have hi' : i < T1.length := by omega
        obtain ⟨w, hw⟩ : ∃ w, T1[i]? = some w := ⟨_, List.getElem?_eq_getElem hi'⟩
        have hwm := List.mem_of_getElem? hw
        have pw := pk w hwm
        have wne := pck_ne pw
        obtain ⟨a0, ha0⟩ : ∃ a, w[0]? = some a := by
          cases w with
          | nil => exact absurd rfl wne
          | cons a r => exact ⟨a, rfl⟩
        have lw : ∀ a ∈ w, a ∈ l := fun a ha => toks_mem hT w hwm a ha
        have hwl2 : (T1.take (i + 1)).flatten.length = (T1.take i).flatten.length + w.length := by
          rw [List.take_add_one, hw, List.flatten_append, List.length_append]
          simp
        have hft := flat_take T1 (i + 1)
        have l1 := List.length_pos_iff.mpr wne
        rw [Int.zero_add]
        have hSw : (T1.map SV)[i]? = some (SV w) := by rw [List.getElem?_map, hw]; rfl
        refine ⟨fun v H7 => ∃ b, v = .bl b ∧ H7 = H6 ∧ (b = false → Gap (T1.take i) w 0), ?_, ?_⟩
        · refine ⟨_, rfl, _, _, rfl, rfl, _, rfl, ?_⟩
          by_cases h0 : i = 0
          · subst h0
            exact iteF ⟨false, rfl, rfl, fun _ => gap_nil⟩
          · rw [show decide ((0 : Int) < (i : Int)) = true from decide_eq_true (by omega)]
            refine iteT ⟨_, rfl, _, rfl, p, _, _, _, rfl, rfl, SqL.of ep6, atI_nat hSw, mkS w, 0, a0, rfl, rfl, small7 (by rw [mk_len]; omega), atI_nat (j := 0) (by show (cs (mkS w))[0]? = _; rw [cs_mk]; exact ha0), a0, rfl, lt127 (lw _ (List.mem_of_getElem? ha0)), _, rfl, ?_⟩
            cases hal : isAl a0 with
            | false => exact iteF ⟨false, rfl, rfl, fun _ => gap_head ha0 hal⟩
            | true =>
              obtain ⟨w2, hw2⟩ : ∃ w, T1[i - 1]? = some w := ⟨_, List.getElem?_eq_getElem (by omega)⟩
              have hw2m := List.mem_of_getElem? hw2
              have w2ne := pck_ne (pk w2 hw2m)
              obtain ⟨w3, a1, rfl⟩ : ∃ w3 a1, w2 = w3 ++ [a1] := ⟨_, _, (List.dropLast_concat_getLast w2ne).symm⟩
              have hSw2 : (T1.map SV)[i - 1]? = some (SV (w3 ++ [a1])) := by rw [List.getElem?_map, hw2]; rfl
              have hgl : (T1.take i).getLast? = some (w3 ++ [a1]) := by
                obtain ⟨j, rfl⟩ : ∃ j, i = j + 1 := ⟨i - 1, by omega⟩
                rw [List.take_add_one, show T1[j]? = some (w3 ++ [a1]) from hw2]
                simp
              have lw2 : (w3 ++ [a1]).length ≤ 900 := by
                have := mem_flat hw2m
                omega
              refine iteT ⟨_, rfl, _, rfl, _, _, rfl, rfl, p, _, _, _, rfl, rfl, SqL.of ep6, by rw [show (i : Int) - 1 = ((i - 1 : Nat) : Int) by omega]; exact atI_nat hSw2, _, rfl, mkS (w3 ++ [a1]), -1, a1, rfl, rfl, small7 (by rw [mk_len]; omega), by show atI (cs (mkS (w3 ++ [a1]))) (-1) = _; rw [cs_mk]; exact atI_last _ _, a1, rfl, lt127 (toks_mem hT _ hw2m a1 (by simp)), ?_⟩
              exact ⟨_, rfl, rfl, fun e => gap_last hgl (by simp) e⟩
        rintro v H7 ⟨b, rfl, rfl, hg⟩
        refine .inr ⟨b, rfl, ?_⟩
        refine ⟨_, rfl, _, rfl, _, rfl, d, c, 3, rfl, D6, by omega, by omega, fun r H8 r0 r3 x8 D8 => ?_⟩
        obtain ⟨n2, hn2⟩ : ∃ n : Nat, (if b = true then (1 : Int) else 0) + r = (n : Int) := ⟨((if b = true then (1 : Int) else 0) + r).toNat, by split <;> omega⟩
        have hn3 : n2 ≤ 3 := by split at hn2 <;> omega
        have gp : Gap (T1.take i) w n2 := by
          cases b with
          | true => exact gap_one (by simp at hn2; omega)
          | false => exact gap_up (hg rfl)
        have ep8 : H8 p = some (.lst (T1.map SV)) := x8.but _ _ npd npc ep6
        have hb2 : (blk n2).length = n2 := by unfold blk; rw [List.length_replicate]
        refine ⟨_, _, rfl, rfl, n2, rfl, by show V.int (_ + _) = _; rw [hn2], by omega, _, _, rfl, rfl, by rw [mk_len, mk_len]; exact small7 (by omega), ?_⟩
        refine ⟨_, rfl, _, rfl, p, _, _, _, rfl, rfl, SqL.of ep8, atI_nat hSw, _, _, rfl, rfl, ?_, ?_⟩
        · rw [mk_app, mk_len, mk_len, List.length_append]; exact small7 (by omega)
        have e : (mkS y5 ++ mkS (blk n2)) ++ mkS w = mkS (y5 ++ (blk n2 ++ w)) := by rw [mk_app, mk_app, List.append_assoc]
        refine ⟨y5 ++ (blk n2 ++ w), _, _, by unfold SV; rw [← e]; rfl, ?_, fun a ha => ?_, ?_, x6.trans x8, D8, ep8⟩
        · rw [List.take_add_one, hw]; exact toks_snoc pw k1 gp
        · rcases List.mem_append.mp ha with h | h
          · exact k2 a h
          · rcases List.mem_append.mp h with h | h
            · exact .inl (List.eq_of_mem_replicate h)
            · exact .inr (lw a h)
        · rw [hwl2]; simp only [List.length_append]; omega
      · rintro σ H6 ⟨y5, y7, y8, rfl, k1, k2, k3, x6, D6, ep6⟩
        have hft := flat_take T1 ((((T1.map SV).length : Nat) : Int).toNat)
        have k1' : Toks y5 T1 := by
          rw [List.take_of_length_le (by rw [List.length_map]; omega)] at k1
          exact k1
        refine ⟨_, rfl, _, rfl, (by show 5 ≤ sizeLine; decide), fun pl hpl => ?_⟩
        obtain ⟨n1, n2⟩ := D6.free hpl
        refine ⟨d, c, pl, ENDS.map V.str, rfl, D6.own n1 n2, .inl upd_same, n1, n2, by decide, by decide, fun x H7 hx x7 D7 => ?_⟩
        obtain ⟨e, he, rfl⟩ := List.mem_map.mp hx
        have le : e.length ≤ 20 := (by decide +kernel : ∀ e ∈ ENDS, e.length ≤ 20) e he
        refine ⟨_, _, rfl, rfl, by rw [mk_len]; exact small7 (by omega), ?_⟩
        have := q y5 e H7 k1' k2 (by omega) he ((x6.trans (.of (same_upd hpl _))).trans x7) D7
        unfold SV at this
        rw [show mkS y5 ++ e = mkS (y5 ++ cs e) by rw [← mk_app, mk_cs]]
        exact this
    rw [show decide ((k : Int) < ((mkS l).length : Int)) = true from decide_eq_true (by omega)]
    have ne : l.drop k ≠ [] := fun e => by have := congrArg List.length e; rw [List.length_drop] at this; simp at this; omega
    obtain ⟨t0, t1, hor⟩ := toks_step hT2 ne
    have hdl : (l.drop k).length = l.length - k := List.length_drop ..
    have hwl := wl_le (l.drop k)
    have dd : (l.drop k).drop (tlen (l.drop k)) = l.drop (k + tlen (l.drop k)) := List.drop_drop ..
    obtain ⟨a, ha⟩ : ∃ a, l[k]? = some a := ⟨_, List.getElem?_eq_getElem hkl⟩
    have ha0 : (l.drop k)[0]? = some a := by rw [at_drop]; exact ha
    refine iteT ⟨fun σ' H2 => ∃ (T3 T4 : List (List Nat)) (y : Option V), σ' = [some (.ref d), some (SV l), some (.ref p), some (.int ((k + tlen (l.drop k) : Nat) : Int)), y, none, none, none] ∧ Toks (l.drop (k + tlen (l.drop k))) T4 ∧ T1 ++ T2 = T3 ++ T4 ∧ T3.length ≤ k + tlen (l.drop k) ∧ Same H H2 ∧ H2 p = some (.lst (T3.map SV)),
      fun σ' H2 ⟨T3, T4, y, r1, r2, r3, r4, r5, r6⟩ => ⟨l.length - (k + tlen (l.drop k)), by omega, _, T3, T4, y, r1, by omega, r2, r3, r4, r5, r6, rfl⟩, ?_⟩
    refine ⟨_, rfl, _, _, rfl, rfl, ?_⟩
    refine ⟨fun σ' H2 => σ' = [some (.ref d), some (SV l), some (.ref p), some (.int k), some (.int ((k + tlen (l.drop k) : Nat) : Int)), none, none, none] ∧ H2 = H', ?_, ?_⟩
    · refine ⟨_, rfl, _, rfl, mkS l, (k : Int), a, rfl, rfl, small7 (by omega), atI_nat (by show (cs (mkS l))[k]? = _; rw [cs_mk]; exact ha), a, rfl, lt127 (List.mem_of_getElem? ha), _, rfl, ?_⟩
      cases hal : isAl a with
      | true =>
        have hw1 : 1 ≤ wl (l.drop k) := by
          cases e : l.drop k with
          | nil => exact absurd e ne
          | cons b r => rw [e] at ha0; cases ha0; rw [wl_yes hal]; omega
        have etl : tlen (l.drop k) = wl (l.drop k) := if_pos hw1
        rw [etl]
        refine iteT ⟨fun m σ H2 => ∃ j, σ = [some (.ref d), some (SV l), some (.ref p), some (.int k), some (.int ((k + j : Nat) : Int)), none, none, none] ∧ H2 = H' ∧ 1 ≤ j ∧ j ≤ wl (l.drop k) ∧ m = wl (l.drop k) - j, ⟨_, 1, rfl, rfl, Nat.le_refl _, hw1, rfl⟩, ?_⟩
        rintro m σ H2 ⟨j, rfl, rfl, hj1, hj, rfl⟩
        refine ⟨_, rfl, _, rfl, _, rfl, small7 (by omega), _, _, rfl, rfl, _, rfl, ?_⟩
        by_cases hjl : k + j < l.length
        case neg =>
          rw [show decide (((k + j : Nat) : Int) < ((mkS l).length : Int)) = false from decide_eq_false (by omega)]
          have : j = wl (l.drop k) := by omega
          exact iteF (iteF ⟨by rw [this], rfl⟩)
        rw [show decide (((k + j : Nat) : Int) < ((mkS l).length : Int)) = true from decide_eq_true (by omega)]
        obtain ⟨b, hb⟩ : ∃ b, l[k + j]? = some b := ⟨_, List.getElem?_eq_getElem hjl⟩
        refine iteT ⟨_, rfl, _, rfl, mkS l, ((k + j : Nat) : Int), b, rfl, rfl, small7 (by omega), atI_nat (by show (cs (mkS l))[k + j]? = _; rw [cs_mk]; exact hb), b, rfl, lt127 (List.mem_of_getElem? hb), _, rfl, ?_⟩
        by_cases hw : j < wl (l.drop k)
        case pos =>
          rw [wl_al hw (by rw [at_drop]; exact hb)]
          refine iteT ⟨fun σ H3 => ∃ j', σ = [some (.ref d), some (SV l), some (.ref p), some (.int k), some (.int ((k + j' : Nat) : Int)), none, none, none] ∧ H3 = H2 ∧ j' = j + 1, fun σ' H3 ⟨j', r1, r2, r3⟩ => ⟨wl (l.drop k) - j', by omega, j', r1, r2, by omega, by omega, rfl⟩, ?_⟩
          exact ⟨_, rfl, _, _, rfl, rfl, j + 1, rfl, rfl, rfl⟩
        have hje : j = wl (l.drop k) := by omega
        rw [wl_end (by rw [← hje, at_drop]; exact hb)]
        exact iteF ⟨by rw [hje], rfl⟩
      | false =>
        have hw0 : ¬ 0 < wl (l.drop k) := by
          cases e : l.drop k with
          | nil => exact absurd e ne
          | cons b r => rw [e] at ha0; cases ha0; rw [wl_no hal]; omega
        have etl : tlen (l.drop k) = if (l.drop k).take 2 = [45, 62] then 2 else 1 := if_neg hw0
        refine iteF ⟨_, rfl, _, rfl, _, rfl, _, rfl, _, _, rfl, rfl, _, rfl, mkS l, rfl, small7 (by omega), rfl, _, rfl, ?_⟩
        have ec : cutS (mkS l) (some (k : Int)) (some ((k : Int) + 2)) = mkS ((l.drop k).take 2) := cut_two (Nat.le_of_lt hkl)
        rw [ec, etl]
        by_cases h2 : (l.drop k).take 2 = [45, 62]
        · rw [h2, if_pos rfl, show decide (V.str (mkS [45, 62]) = V.str "->") = true by decide +kernel]
          exact iteT ⟨_, rfl, _, _, rfl, rfl, rfl, rfl⟩
        · have : ¬ (V.str (mkS ((l.drop k).take 2)) = V.str "->") := fun e => h2 (by
            have := congrArg cs (V.str.inj e)
            rw [cs_mk] at this
            exact this)
          rw [if_neg h2, decide_eq_false this]
          exact iteF ⟨rfl, rfl⟩
    rintro σ H2 ⟨rfl, rfl⟩
    refine ⟨_, rfl, _, rfl, mkS l, (k : Int), a, rfl, rfl, small7 (by omega), atI_nat (by show (cs (mkS l))[k]? = _; rw [cs_mk]; exact ha), rfl, _, rfl, ?_⟩
    rcases hor with ⟨h32, hT3⟩ | ⟨h32, T3, rfl, hT3⟩
    · rw [ha0] at h32
      cases h32
      rw [show (!decide (V.str ⟨#[32]⟩ = V.str " ")) = false by decide]
      rw [dd] at hT3
      exact iteF ⟨_, rfl, T1, T2, _, rfl, hT3, rfl, by omega, s1, e1⟩
    · have nc : a ≠ 32 := fun e => h32 (by rw [ha0, e])
      rw [show (!decide (V.str ⟨#[a]⟩ = V.str " ")) = true by
        have : ¬ (V.str ⟨#[a]⟩ = V.str " ") := fun e => by
          have e3 : [a] = [32] := congrArg cs (V.str.inj e)
          exact nc (by simpa using e3)
        simpa using this]
      rw [dd] at hT3
      refine iteT ⟨_, rfl, .inl ⟨rfl, _, SqL.of e1⟩, _, rfl, _, rfl, _, rfl, _, rfl, _, rfl, mkS l, rfl, small7 (by omega), ?_⟩
      rw [cut_mid (by omega) (by omega), show k + tlen (l.drop k) - k = tlen (l.drop k) by omega]
      refine ⟨p, _, _, rfl, rfl, e1, ?_, _, rfl, T1 ++ [(l.drop k).take (tlen (l.drop k))], T3, _, rfl, hT3, by simp, ?_, Kx.Same.own s1 hp _, ?_⟩
      · rw [List.length_map]; exact small1000 (by omega)
      · rw [List.length_append, List.length_singleton]; omega
      · rw [upd_same, List.map_append]; rfl
end
end Kx
namespace Kx
open PySem PySem.Spec PyProof.Rows L2
section
variable {P : Program} {w : World} {K : PySem.W.Frag} {mg : Str → Option Value} {base : Heap}
set_option pp.maxSteps 1500
/-! ### rows as they are spread -/
structure RwO (r : Rw) : Prop where
  tk : Toks r.x r.U
  ok : Ok r.x
  cm : Cm r.cm
  op : opn r.U ≤ 40
  iu : r.U = match r.it with | none => [] | some it => tokI it
theorem RwO.up {r : Rw} (h : RwO r) (l : r.full.length ≤ 6000) : RwOk r := ⟨h.tk, h.ok, h.cm, l, h.op, h.iu⟩
structure Ol where
  l : List Nat
  T : List (List Nat)
  it : Option Item
structure OlOk (o : Ol) : Prop where
  tk : Toks o.l o.T
  ok : OkR o.l
  len : o.l.length ≤ 900
  k : (∃ i, o.it = some i ∧ Ok o.l ∧ o.T = tokI i ∧ opn o.T ≤ 40) ∨ (o.it = none ∧ ((o.T = [] ∧ Ok o.l) ∨ ∃ U, o.T = [35] :: U))
theorem cm_nil : Cm [] := ⟨fun c h => (by cases h), .inl rfl⟩
theorem ends_split : ∀ e ∈ ENDS, ∃ k cm, cs e = blk k ++ cm ∧ Cm cm := by
  intro e he
  simp only [List.mem_cons, List.not_mem_nil, or_false] at he
  rcases he with rfl | rfl | rfl | rfl | rfl
  · exact ⟨0, [], by decide +kernel, cm_nil⟩
  · exact ⟨1, [], by decide +kernel, cm_nil⟩
  · exact ⟨0, cs "# maker zero 0 (", by decide +kernel, by show ∀ c ∈ cs "# maker zero 0 (", okr c; decide +kernel, .inr ⟨cs " maker zero 0 (", by decide +kernel⟩⟩
  · exact ⟨3, [35], by decide +kernel, by show ∀ c ∈ [35], okr c; decide, .inr ⟨[], rfl⟩⟩
  · exact ⟨0, cs "#->!~", by decide +kernel, by show ∀ c ∈ cs "#->!~", okr c; decide +kernel, .inr ⟨cs "->!~", by decide +kernel⟩⟩
theorem ends_okr : ∀ e ∈ ENDS, ∀ c ∈ cs e, okr c := by decide +kernel
theorem blk_ok (n : Nat) : Ok (blk n) := fun c hc => by rw [List.eq_of_mem_replicate hc]; decide
theorem opn_nil : opn [] ≤ 40 := by decide
theorem ol_rw {o : Ol} {y : List Nat} {e : Str} (h : OlOk o) (hy : Toks y o.T) (hs : ∀ a ∈ y, a = 32 ∨ a ∈ o.l) (he : e ∈ ENDS) : ∃ r : Rw, r.full = y ++ cs e ∧ r.it = o.it ∧ RwO r := by
  obtain ⟨k, cm, e1, hc⟩ := ends_split e he
  have yok : Ok o.l → Ok y := fun hl c hc => (hs c hc).elim (fun e => by rw [e]; decide) (hl c)
  rcases h.k with ⟨i, hi, hl, hT, ho⟩ | ⟨hi, ⟨hT, hl⟩ | ⟨U, hT⟩⟩
  · exact ⟨⟨y ++ blk k, cm, o.T, o.it⟩, by unfold Rw.full; rw [e1, List.append_assoc], rfl, ⟨toks_more hy k, .app (yok hl) (blk_ok k), hc, ho, by simp only [hi]; exact hT⟩⟩
  · exact ⟨⟨y ++ blk k, cm, o.T, o.it⟩, by unfold Rw.full; rw [e1, List.append_assoc], rfl, ⟨toks_more hy k, .app (yok hl) (blk_ok k), hc, by rw [hT]; exact opn_nil, by simp only [hi]; exact hT⟩⟩
  · obtain ⟨n, r, rfl⟩ := toks_35 hy hT
    refine ⟨⟨blk n, 35 :: (r ++ cs e), [], o.it⟩, by unfold Rw.full; simp, rfl, ⟨toks_blk n, blk_ok n, ⟨fun c hc => ?_, .inr ⟨_, rfl⟩⟩, opn_nil, by simp only [hi]⟩⟩
    rcases List.mem_cons.mp hc with rfl | hc
    · decide
    · rcases List.mem_append.mp hc with hc | hc
      · rcases hs c (by simp [hc]) with rfl | hc
        · decide
        · exact h.ok c hc
      · exact ends_okr e he c hc
abbrev EXT : List Str := ["", "  ", "# f(x) = x"]
theorem ext_ol : ∀ z ∈ EXT, ∃ T, OlOk ⟨cs z, T, none⟩ := by
  intro z hz
  simp only [List.mem_cons, List.not_mem_nil, or_false] at hz
  rcases hz with rfl | rfl | rfl
  · exact ⟨[], .nil, fun c h => (by cases h), by decide, .inr ⟨rfl, .inl ⟨rfl, fun c h => (by cases h)⟩⟩⟩
  · exact ⟨[], toks_blk 2, by show ∀ c ∈ cs "  ", okr c; decide +kernel, by decide, .inr ⟨rfl, .inl ⟨rfl, by show ∀ c ∈ cs "  ", okc c; decide +kernel⟩⟩⟩
  · refine ⟨_, .sign (c := 35) (by decide +kernel) (by decide) (by decide) (.sp (Toks.wd (w := [102]) (by decide +kernel) (stp_cons al_40) (.op (Toks.wd (w := [120]) (by decide +kernel) (stp_cons al_41) (.cl (.sp (.c61 (.sp (toks_end (Pc.wd (w := [120]) (by decide +kernel))))))))))), by show ∀ c ∈ cs "# f(x) = x", okr c; decide +kernel, by decide, .inr ⟨rfl, .inr ⟨_, rfl⟩⟩⟩
def olI (it : Item) : Ol := ⟨lineI it, tokI it, some it⟩
theorem PgOk.ol {t : Tb} {fs : List Fn} (h : PgOk t fs) {it : Item} (hi : it ∈ items t fs) : OlOk (olI it) := by
  have k := h.itLn it hi
  exact ⟨k.tk, k.ok.r, k.len, .inl ⟨it, rfl, k.ok, rfl, k.op⟩⟩
def rwI (it : Item) : Rw := ⟨lineI it, [], tokI it, some it⟩
theorem PgOk.rw {t : Tb} {fs : List Fn} (h : PgOk t fs) {it : Item} (hi : it ∈ items t fs) : RwO (rwI it) := by
  have k := h.itLn it hi
  exact ⟨k.tk, k.ok, cm_nil, k.op, rfl⟩
theorem itsR_rwI (l : List Item) : itsR (l.map rwI) = l := by
  induction l with
  | nil => rfl
  | cons a r ih =>
    unfold itsR at *
    rw [List.map_cons, List.filterMap_cons, ih]; rfl
theorem mem_fullT {ls : List (List Nat)} {l : List Nat} (h : l ∈ ls) : l.length ≤ (fullT ls).length := by
  unfold fullT
  have := mem_flat (T := ls.map (· ++ [10])) (p := l ++ [10]) (List.mem_map.mpr ⟨l, h, rfl⟩)
  rw [List.length_append] at this
  omega
/-- rows that are read as this table and this program -/
structure RdOk (rs : List Rw) (t : Tb) (fs : List Fn) : Prop where
  ne : rs ≠ []
  l1 : rs.length ≤ 1000
  l6 : (fullT (rs.map Rw.full)).length ≤ 6000
  ok : ∀ r ∈ rs, RwO r
  il : Il (itsA t) (itsF fs) (itsR rs)
  pg : PgOk t fs
def spRead : Sp := fun vs H Q _ => ∃ (rs : List Rw) (t : Tb) (fs : List Fn), vs = [SV (fullT (rs.map Rw.full))] ∧ RdOk rs t fs ∧ ∀ v H', Is H' v (.tup [tabP t, prgP fs]) → Same H H' → Q v H'
theorem go_nm {i : Nat} {v : V} {σ : L2.St} {H : Hp} {k : L2.St → Hp → Prop} (h : k (σ.set i (some v)) H) : gName i v σ H k := h
theorem ok_read (T : Txt K mg) (G_drafted : FnOk P w K mg base CX0 14 T.a_drafted T.d_drafted ["text", "asks"] (spDrafted T.c_Draft)) (G_table : FnOk P w K mg base CX0 6 T.a_table T.d_table ["draft"] (spRTable T.c_Draft)) (G_program : FnOk P w K mg base CX0 6 T.a_program T.d_program ["draft"] (spRProg T.c_Draft)) : FnOk P w K mg base CX0 15 T.a_read T.d_read ["text"] spRead := by
  refine T.F_read.ok sc_read (fun vs H Q E h => ?_) (fun cdv A outer s H vs Q E hr h => ?_)
  · obtain ⟨rs, t, fs, rfl, _⟩ := h; rfl
  · obtain ⟨rs, t, fs, rfl, hR, q⟩ := h
    have hr_drafted : Room 14 _ := hr
    have hr_table : Room 6 _ := hr.mono (by decide)
    have hr_program : Room 6 _ := hr.mono (by decide)
    refine ⟨_, (pss_cons (ps_set (i := 1) sc_read.nd rfl (Or.inl rfl) (pe_call G_drafted hr_drafted rfl T.m_drafted T.F_drafted.kp T.b_drafted .nil pass0 (pa_cons (pv 0) (pa_cons pe_bl pa_nil))))
    (pss_one (ps_ret (pe_tup (pa_cons (pe_call G_table hr_table rfl T.m_table T.F_table.kp T.b_table .nil pass0 (pa_cons (pv 1) pa_nil)) (pa_cons (pe_call G_program hr_program rfl T.m_program T.F_program.kp T.b_program .nil pass0 (pa_cons (pv 1) pa_nil)) pa_nil)))))), ?_⟩
    have hP := hR.pg
    obtain ⟨h1, h2⟩ := hP.mix hR.il
    refine ⟨_, rfl, rs, rfl, hR.ne, hR.l1, hR.l6, fun r hr => (hR.ok r hr).up (Nat.le_trans (mem_fullT (List.mem_map.mpr ⟨r, hr, rfl⟩)) hR.l6), h1, fun a H1 D1 s1 => ?_⟩
    rw [h2] at D1
    refine go_nm (nx_of (go_ret (t := .tup [tabP t, prgP fs]) (vx_tup (vs_cons (t := tabP t) (fun H5 Q5 s5 q5 => ⟨_, rfl, a, dsOf t fs, rfl, D1.same s5, hP.ds, q5⟩) (vs_cons (t := prgP fs) (fun H5 Q5 s5 q5 => ⟨_, rfl, a, dsOf t fs, rfl, D1.same s5, hP.ds, q5⟩) vs_nil)) (by simp)) ?_))
    exact fun v H' iv s' => q v H' iv (s1.trans s')
end
end Kx
namespace Kx
open PySem PySem.Spec PyProof.Rows L2
section
variable {P : Program} {w : World} {K : PySem.W.Frag} {mg : Str → Option Value} {base : Heap}
set_option pp.maxSteps 2500
theorem cut_pre {A B : List V} {n : Int} (h : n = (A.length : Int)) : cutV (A ++ B) none (some n) = A := by
  subst h
  unfold cutV
  rw [HT.sIx_none, HT.sIx_nat, List.length_append, Nat.min_eq_left (by omega), List.drop_zero, Nat.sub_zero, List.take_left]
theorem cut_suf {A B : List V} {n : Int} (h : n = (A.length : Int)) : cutV (A ++ B) (some n) none = B := by
  subst h
  unfold cutV
  rw [HT.sIx_none, HT.sIx_nat, List.length_append, Nat.min_eq_left (by omega), List.drop_left, List.take_of_length_le (by omega)]
/-- what the law's lists hold while the rows are mixed -/
structure Mx (t : Tb) (fs : List Fn) (pa pb pr po : Addr) (a1 a2 b1 b2 : List Item) (os : List Ol) (H : Hp) : Prop where
  ea : itsA t = a1 ++ a2
  eb : itsF fs = b1 ++ b2
  la : H pa = some (.lst ((a2.map lineI).map SV))
  lb : H pb = some (.lst ((b2.map lineI).map SV))
  lr : H pr = some (.lst [.ref pa, .ref pb])
  lo : H po = some (.lst (os.map fun o => SV o.l))
  il : Il a1 b1 (os.filterMap Ol.it)
  ok : ∀ o ∈ os, OlOk o
  ln : os.length ≤ 2 * (a1.length + b1.length)
  n1 : pa ≠ pb
  n2 : pa ≠ po
  n3 : pb ≠ po
theorem Mx.keep {t : Tb} {fs : List Fn} {pa pb pr po : Addr} {a1 a2 b1 b2 : List Item} {os : List Ol} {H H' : Hp} (m : Mx t fs pa pb pr po a1 a2 b1 b2 os H) (k : ∀ b o, b = pa ∨ b = pb ∨ b = pr ∨ b = po → H b = some o → H' b = some o) : Mx t fs pa pb pr po a1 a2 b1 b2 os H' :=
  ⟨m.ea, m.eb, k _ _ (.inl rfl) m.la, k _ _ (.inr (.inl rfl)) m.lb, k _ _ (.inr (.inr (.inl rfl))) m.lr, k _ _ (.inr (.inr (.inr rfl))) m.lo, m.il, m.ok, m.ln, m.n1, m.n2, m.n3⟩
/-- the draws' lists are none of these -/
def Ap (d c pa pb pr po : Addr) : Prop := ∀ b, b = pa ∨ b = pb ∨ b = pr ∨ b = po → b ≠ d ∧ b ≠ c
theorem Mx.ex {t : Tb} {fs : List Fn} {d c pa pb pr po : Addr} {a1 a2 b1 b2 : List Item} {os : List Ol} {H H' : Hp} (m : Mx t fs pa pb pr po a1 a2 b1 b2 os H) (ap : Ap d c pa pb pr po) (x : Ex d c H H') : Mx t fs pa pb pr po a1 a2 b1 b2 os H' :=
  m.keep fun b o h e => x.but b o (ap b h).1 (ap b h).2 e
theorem join_full {ls : List (List Nat)} : Txt.join ("" : Str) ((ls.map (· ++ [10])).map mkS) = mkS (fullT ls) := cs_inj (by
  rw [cs_join, cs_mk, List.map_map]
  have e : (List.map (· ++ [10]) ls).map (cs ∘ mkS) = List.map (· ++ [10]) ls := (List.map_congr_left (g := fun x => x) fun x _ => cs_mk x).trans (List.map_id' _)
  rw [e]
  show gj [] _ = _
  rw [gj_nil]; rfl)
theorem rw_full (l : List Item) : (l.map rwI).map Rw.full = l.map lineI := by
  rw [List.map_map]
  exact List.map_congr_left fun x _ => by show lineI x ++ [] = _; rw [List.append_nil]
theorem PgOk.rd {t : Tb} {fs : List Fn} (h : PgOk t fs) : RdOk ((items t fs).map rwI) t fs := by
  refine ⟨fun e => h.itNe (List.map_eq_nil_iff.mp e), by rw [List.length_map]; exact Nat.le_trans h.itLe (by decide), ?_, fun r hr => ?_, ?_, h⟩
  · rw [rw_full, line_items]; exact Nat.le_trans h.len (by decide)
  · obtain ⟨it, hi, rfl⟩ := List.mem_map.mp hr
    exact h.rw hi
  · rw [itsR_rwI]; exact il_app _ _
theorem Il.len {a b o : List Item} (h : Il a b o) : o.length = a.length + b.length := by
  induction h with
  | nil => rfl
  | l h ih => rw [List.length_append, List.length_append, List.length_singleton]; omega
  | r h ih => rw [List.length_append, List.length_append, List.length_singleton]; omega
theorem small8 {n : Nat} (h : n ≤ 1000000) : n ≤ sizeLine := by rw [sizeLine_eq]; omega
def BtE (σ : L2.St) (H0 : Hp) (te : TE) : Prop := ∀ (H : Hp) (Q : VK), Same H0 H → (∀ H', Same H H' → Q (.bl true) H') → te σ H Q
theorem bt_read {σ : L2.St} {H0 : Hp} {i j : Nat} {tv gv : V} {rs : List Rw} {t : Tb} {fs : List Fn} {E E2 : XK} {te : TE} (e1 : σ[i]? = some (some tv)) (e2 : σ[j]? = some (some gv)) (hT : Is H0 tv (tabP t)) (hG : Is H0 gv (prgP fs)) (hR : RdOk rs t fs) (hx : TxE σ H0 te (fullT (rs.map Rw.full))) :
    BtE σ H0 (tCall (spSame 11) [] E (tCons (tCall spRead [] E2 (tCons te tNil)) (tCons (tTup (tCons (tVar i) (tCons (tVar j) tNil))) tNil))) := fun H Q s q =>
  hx H _ s fun H1 s1 => ⟨rs, t, fs, rfl, hR, fun v H2 iv s2 => vx_tup (ts := [tabP t, prgP fs]) (vs_cons (vx_var e1 (hT.same (s.trans (s1.trans s2)))) (vs_cons (vx_var e2 (hG.same (s.trans (s1.trans s2)))) vs_nil)) (by simp) H2 _ (.refl _) fun v2 H3 i2 s3 => ⟨v, v2, _, rfl, iv.same s3, i2, hR.pg.wb, fun H' s' => q H' (((s1.trans s2).trans s3).trans s')⟩⟩
def spLaw (K : PySem.W.Frag) : Sp := fun vs H Q _ => ∃ (a : Addr) (ns : List Int), vs = [.ref a] ∧ SqL K H a (ns.map V.int) ∧ ns.length ≤ 63 ∧ ∀ H', Q (.bl true) H'
theorem ok_law (T : Txt K mg) (G_law_state : FnOk P w K mg base CX0 1 T.a_law_state T.d_law_state ["script"] (spState K)) (G_law_table : FnOk P w K mg base CX0 7 T.a_law_table T.d_law_table ["state"] spTable) (G_law_program : FnOk P w K mg base CX0 7 T.a_law_program T.d_law_program ["state", "table"] spProg) (G_law_lines : FnOk P w K mg base CX0 6 T.a_law_lines T.d_law_lines ["table", "program"] spLines) (G_law_draw : FnOk P w K mg base CX0 1 T.a_law_draw T.d_law_draw ["state", "many"] spDraw) (G_law_pick : FnOk P w K mg base CX0 2 T.a_law_pick T.d_law_pick ["state", "row"] (spPick K)) (G_law_spread : FnOk P w K mg base CX0 3 T.a_law_spread T.d_law_spread ["state", "line"] spSpread) (G_law_same : FnOk P w K mg base CX0 12 T.a_law_same T.d_law_same ["told", "due"] (spSame 11)) (G_read : FnOk P w K mg base CX0 15 T.a_read T.d_read ["text"] spRead) : FnOk P w K mg base CX0 16 T.a_law T.d_law ["script"] (spLaw K) := by
  refine T.F_law.ok sc_law (fun vs H Q E h => ?_) (fun cdv A outer s H vs Q E hr h => ?_)
  · obtain ⟨a, ns, rfl, _⟩ := h; rfl
  · obtain ⟨a, ns, rfl, hS, h63, q⟩ := h
    have hr_law_state : Room 1 _ := hr.mono (by decide)
    have hr_law_draw : Room 1 _ := hr.mono (by decide)
    have hr_law_pick : Room 2 _ := hr.mono (by decide)
    have hr_law_spread : Room 3 _ := hr.mono (by decide)
    have hr_law_table : Room 7 _ := hr.mono (by decide)
    have hr_law_program : Room 7 _ := hr.mono (by decide)
    have hr_law_lines : Room 6 _ := hr.mono (by decide)
    have hr_law_same : Room 12 _ := hr.mono (by decide)
    have hr_read : Room 15 _ := hr
    refine ⟨_, (pss_cons (ps_set (i := 1) sc_law.nd rfl (Or.inr rfl) (pe_call G_law_state hr_law_state rfl T.m_law_state T.F_law_state.kp T.b_law_state .nil pass0 (pa_cons (pv 0) pa_nil)))
    (pss_cons (ps_set (i := 2) sc_law.nd rfl (Or.inl rfl) (pe_call G_law_table hr_law_table rfl T.m_law_table T.F_law_table.kp T.b_law_table .nil pass0 (pa_cons (pv 1) pa_nil)))
    (pss_cons (ps_set (i := 3) sc_law.nd rfl (Or.inl rfl) (pe_call G_law_program hr_law_program rfl T.m_law_program T.F_law_program.kp T.b_law_program .nil pass0 (pa_cons (pv 1) (pa_cons (pv 2) pa_nil))))
    (pss_cons (ps_set (i := 4) sc_law.nd rfl (Or.inl rfl) (pe_call G_law_lines hr_law_lines rfl T.m_law_lines T.F_law_lines.kp T.b_law_lines .nil pass0 (pa_cons (pv 2) (pa_cons (pv 3) pa_nil))))
    (pss_cons (ps_set (i := 5) sc_law.nd rfl (Or.inl rfl) (pe_op op_add (pe_op op_add (pe_callB call_len_seq (by rfl) T.z_len (by decide +kernel) (pa_cons (pe_ix ix_tup (pv 2) pe_int (fun _ _ => rfl)) pa_nil)) (pe_callB call_len_seq (by rfl) T.z_len (by decide +kernel) (pa_cons (pe_ix ix_tup (pv 2) pe_int (fun _ _ => rfl)) pa_nil))) (pe_callB call_len_seq (by rfl) T.z_len (by decide +kernel) (pa_cons (pe_ix ix_tup (pv 2) pe_int (fun _ _ => rfl)) pa_nil))))
    (pss_cons (ps_set (i := 6) sc_law.nd rfl (Or.inl rfl) (pe_lst (pa_cons (pe_slice sl_list (pv 4) po_none (po_some (pv 5))) (pa_cons (pe_slice sl_list (pv 4) (po_some (pv 5)) po_none) pa_nil))))
    (pss_cons (ps_set (i := 7) sc_law.nd rfl (Or.inl rfl) (pe_lst pa_nil))
    (pss_cons (ps_while PassesOwn.never (pt_cmpR op_gt (pe_op op_add (pe_callB call_len_seq (by rfl) T.z_len (by decide +kernel) (pa_cons (pe_ix ix_list (pv 6) pe_int (fun _ _ => rfl)) pa_nil)) (pe_callB call_len_seq (by rfl) T.z_len (by decide +kernel) (pa_cons (pe_ix ix_list (pv 6) pe_int (fun _ _ => rfl)) pa_nil))) pe_int (nomark _))
    (pss_cons (ps_set (i := 8) sc_law.nd rfl (Or.inl rfl) (pe_call G_law_draw hr_law_draw rfl T.m_law_draw T.F_law_draw.kp T.b_law_draw .nil pass0 (pa_cons (pv 1) (pa_cons pe_int pa_nil))))
    (Evl.pss_cut (ps_if (pt_cmpR op_eq (pe_callB call_len_seq (by rfl) T.z_len (by decide +kernel) (pa_cons (pe_ix ix_list (pv 6) (pv 8) (fun _ _ => rfl)) pa_nil)) pe_int (nomark _)) (pss_one (ps_set (i := 8) sc_law.nd rfl (Or.inl rfl) (pe_op op_sub pe_int (pv 8)))) pss_nil)
    (Evl.pss_cut (ps_expr (pe_bm PySem.F.plainAttrs_list PySem.F.slot_list_append PySem.F.type_list_append mt_append (pv 7) (pa_cons (pe_bm PySem.F.plainAttrs_list PySem.F.slot_list_pop PySem.F.type_list_pop mt_popAt (pe_ix ix_list (pv 6) (pv 8) (fun _ _ => rfl)) (pa_cons pe_int pa_nil)) pa_nil)))
    (pss_one (ps_if (pt_cmpR op_eq (pe_call G_law_draw hr_law_draw rfl T.m_law_draw T.F_law_draw.kp T.b_law_draw .nil pass0 (pa_cons (pv 1) (pa_cons pe_int pa_nil))) pe_int (nomark _)) (pss_one (ps_expr (pe_bm PySem.F.plainAttrs_list PySem.F.slot_list_append PySem.F.type_list_append mt_append (pv 7) (pa_cons (pe_call G_law_pick hr_law_pick rfl T.m_law_pick T.F_law_pick.kp T.b_law_pick .nil pass0 (pa_cons (pv 1) (pa_cons (pe_lst (pa_cons pe_str (pa_cons pe_str (pa_cons pe_str pa_nil)))) pa_nil))) pa_nil)))) pss_nil))))))
    (pss_cons (ps_set (i := 9) sc_law.nd rfl (Or.inl rfl) (pe_join pe_str (pe_lc (own := [("line", 10)]) (g := (gName 10)) (tt := tYes) rfl sc_law.nd (pi_list (pv 7)) (blkOk_by (own := [("line", 10)]) (N := ["script", "state", "table", "program", "lines", "first", "rows", "order", "side", "text", "line"]) (sc := defScope s_law) (by decide +kernel)) (fun _ _ _ _ _ => (pg_name (i := 10) sc_law.nd rfl (Or.inl rfl))) (fun _ _ _ _ _ => pts_nil) (fun _ _ _ _ _ => (pe_op op_add_str (pe_call G_law_spread hr_law_spread rfl T.m_law_spread T.F_law_spread.kp T.b_law_spread .nil pass0 (pa_cons (pv 1) (pa_cons (pv 10) pa_nil))) pe_str)))))
    (Evl.pss_cut (ps_if (pt_cmpR op_gt (pe_callB call_len_str (by rfl) T.z_len (by decide +kernel) (pa_cons (pv 9) pa_nil)) pe_int (nomark _)) (pss_one (ps_set (i := 9) sc_law.nd rfl (Or.inl rfl) (pe_join pe_str (pe_lc (own := [("line", 10)]) (g := (gName 10)) (tt := tYes) rfl sc_law.nd (pi_list (pv 4)) (blkOk_by (own := [("line", 10)]) (N := ["script", "state", "table", "program", "lines", "first", "rows", "order", "side", "text", "line"]) (sc := defScope s_law) (by decide +kernel)) (fun _ _ _ _ _ => (pg_name (i := 10) sc_law.nd rfl (Or.inl rfl))) (fun _ _ _ _ _ => pts_nil) (fun _ _ _ _ _ => (pe_op op_add_str (pv 10) pe_str)))))) pss_nil)
    (pss_one (ps_ret (pe_call G_law_same hr_law_same rfl T.m_law_same T.F_law_same.kp T.b_law_same .nil pass0 (pa_cons (pe_call G_read hr_read rfl T.m_read T.F_read.kp T.b_read .nil pass0 (pa_cons (pv 9) pa_nil)) (pa_cons (pe_tup (pa_cons (pv 2) (pa_cons (pv 3) pa_nil))) pa_nil))))))))))))))), ?_⟩
    refine ⟨_, rfl, a, ns, rfl, hS, h63, fun d c H1 s1 D1 => ?_⟩
    refine ⟨_, rfl, d, c, rfl, D1, fun tv t H2 iT hT x2 D2 => ?_⟩
    refine ⟨_, rfl, _, rfl, d, c, tv, t, rfl, D2, iT, hT, fun gv fs H3 iG hF hG x3 D3 => ?_⟩
    have iT3 := iT.ex x3 D2
    have hP : PgOk t fs := ⟨hT, hF, hG⟩
    refine ⟨_, rfl, _, rfl, tv, gv, t, fs, rfl, iT3, iG, hP, fun pl H4 s4 e4 => ?_⟩
    have D4 := D3.same s4
    have iT4 := iT3.same s4
    have iG4 := iG.same s4
    obtain ⟨ta, m, f, k, vm, vk, rfl, eta, em, im, ef, ek, ik⟩ := tab_inv iT4
    have hlm := im.len
    have hlk := ik.len
    rw [List.length_map] at hlm hlk
    refine ⟨_, rfl, ta, _, _, _, rfl, rfl, .inl (.inl eta), atI_nat (j := 1) rfl, m, _, rfl, .inr (.inl (.inl em)), ?_⟩
    refine ⟨_, rfl, ta, _, _, _, rfl, rfl, .inl (.inl eta), atI_nat (j := 2) rfl, f, _, rfl, .inr (.inl (.inl ef)), _, _, rfl, rfl, ?_⟩
    refine ⟨_, rfl, ta, _, _, _, rfl, rfl, .inl (.inl eta), atI_nat (j := 3) rfl, k, _, rfl, .inr (.inl (.inl ek)), _, _, rfl, rfl, ?_⟩
    have hlA : ((vm.length : Int) + ((t.fams.map V.str).length : Int)) + (vk.length : Int) = ((((itsA t).map lineI).map SV).length : Int) := by
      unfold itsA
      simp only [List.length_map, List.length_append]
      omega
    have hln : (lines t fs).map SV = ((itsA t).map lineI).map SV ++ ((itsF fs).map lineI).map SV := by
      rw [← line_items]
      unfold items
      rw [List.map_append, List.map_append]
    have e4' := e4
    rw [hln] at e4'
    have l100 := lines_le hP
    refine ⟨_, rfl, _, rfl, _, rfl, pl, _, rfl, SqL.of e4', fun pa hpa => ?_⟩
    have s5 := same_upd hpa (.lst (((itsA t).map lineI).map SV))
    rw [cut_pre hlA]
    refine ⟨_, rfl, _, rfl, _, rfl, pl, _, rfl, SqL.of (s5 _ _ e4'), fun pb hpb => ?_⟩
    rw [cut_suf hlA]
    have s6 := same_upd hpb (.lst (((itsF fs).map lineI).map SV))
    refine ⟨(by show 2 ≤ sizeLine; decide), fun pr hpr => ?_⟩
    have s7 := same_upd hpr (.lst [.ref pa, .ref pb])
    refine ⟨by decide, fun po hpo => ?_⟩
    have s8 := same_upd hpo (.lst [])
    have npb : pa ≠ pb := ne_of_none upd_same hpb
    have npo : pa ≠ po := ne_of_none (s7 _ _ (s6 _ _ upd_same)) hpo
    have npo2 : pb ≠ po := ne_of_none (s7 _ _ upd_same) hpo
    have npr : pa ≠ pr := ne_of_none (s6 _ _ upd_same) hpr
    have npr2 : pb ≠ pr := ne_of_none upd_same hpr
    have npr3 : pr ≠ po := ne_of_none upd_same hpo
    have ap : Ap d c pa pb pr po := fun b hb => by
      have fr : H4 b = none := by
        rcases hb with rfl | rfl | rfl | rfl
        · exact hpa
        · exact s5.free hpb
        · exact (s5.trans s6).free hpr
        · exact ((s5.trans s6).trans s7).free hpo
      exact D4.free fr
    have npl : pl ≠ pa ∧ pl ≠ pb ∧ pl ≠ pr ∧ pl ≠ po := ⟨ne_of_none e4 hpa, ne_of_none (s5 _ _ e4) hpb, ne_of_none (s6 _ _ (s5 _ _ e4)) hpr, ne_of_none (s7 _ _ (s6 _ _ (s5 _ _ e4))) hpo⟩
    have npd : pl ≠ d ∧ pl ≠ c := by
      obtain ⟨ns2, m2, ed, ec, _⟩ := D4
      obtain ⟨x, r, hxr⟩ : ∃ x r, lines t fs = x :: r := by
        cases e : lines t fs with
        | nil =>
          rw [← line_items] at e
          exact absurd (List.map_eq_nil_iff.mp e) hP.itNe
        | cons x r => exact ⟨x, r, rfl⟩
      rw [hxr] at e4
      refine ⟨fun z => ?_, fun z => ?_⟩
      · rw [z, ed] at e4; cases e4
      · rw [z, ec] at e4
        cases ns2 with
        | nil => cases e4
        | cons y ys => cases e4
    generalize hfi : ((vm.length : Int) + ((t.fams.map V.str).length : Int)) + (vk.length : Int) = fi
    have itl : (itsA t).length + (itsF fs).length ≤ 100 := by
      have := hP.itLe
      unfold items at this
      rwa [List.length_append] at this
    refine ⟨fun m σ H' => ∃ (y8 : Option V) (a1 a2 b1 b2 : List Item) (os : List Ol), σ = [some (.ref a), some (.ref d), some (.ref ta), some gv, some (.ref pl), some (.int fi), some (.ref pr), some (.ref po), y8, none, none] ∧ Mx t fs pa pb pr po a1 a2 b1 b2 os H' ∧ Tk H4 H' ∧ H' pl = some (.lst ((lines t fs).map SV)) ∧ Dr H' d c ∧ m = a2.length + b2.length, ?_, ?_⟩
    · refine ⟨_, _, [], itsA t, [], itsF fs, [], by rw [← hfi]; rfl, ⟨rfl, rfl, s8 _ _ (s7 _ _ (s6 _ _ upd_same)), s8 _ _ (s7 _ _ upd_same), s8 _ _ upd_same, upd_same, .nil, by simp, by simp, npb, npo, npo2⟩, .of (((s5.trans s6).trans s7).trans s8), s8 _ _ (s7 _ _ (s6 _ _ (s5 _ _ e4))), (((D4.same s5).same s6).same s7).same s8, rfl⟩
    rintro m2 σ H9 ⟨y8, a1, a2, b1, b2, os, rfl, M, T9, ep9, D9, rfl⟩
    have hab : a1.length + a2.length = (itsA t).length ∧ b1.length + b2.length = (itsF fs).length := by rw [M.ea, M.eb, List.length_append, List.length_append]; exact ⟨rfl, rfl⟩
    refine ⟨_, rfl, pr, _, _, _, rfl, rfl, SqL.of M.lr, atI_nat (j := 0) rfl, pa, _, rfl, .inl (SqL.of M.la), _, rfl, pr, _, _, _, rfl, rfl, SqL.of M.lr, atI_nat (j := 1) rfl, pb, _, rfl, .inl (SqL.of M.lb), _, _, rfl, rfl, _, _, rfl, rfl, _, rfl, ?_⟩
    rw [List.length_map, List.length_map, List.length_map, List.length_map]
    by_cases hz : a2.length + b2.length = 0
    · rw [show decide ((0 : Int) < (a2.length : Int) + (b2.length : Int)) = false from decide_eq_false (by omega)]
      refine iteF ?_
      obtain rfl : a2 = [] := List.length_eq_zero_iff.mp (by omega)
      obtain rfl : b2 = [] := List.length_eq_zero_iff.mp (by omega)
      have hA : a1 = itsA t := by rw [M.ea, List.append_nil]
      have hB : b1 = itsF fs := by rw [M.eb, List.append_nil]
      subst hA hB
      have hlo := M.ln
      refine ⟨⟨_, rfl⟩, _, rfl, po, rfl, ⟨_, SqL.of M.lo⟩, fun D hD => ?_⟩
      obtain ⟨nDd, nDc⟩ := D9.free hD
      have nDo : po ≠ D := ne_of_none M.lo hD
      have nDl : pl ≠ D := ne_of_none ep9 hD
      refine lc_list (K := K) (a := po) (xs := os.map fun o => SV o.l) (fun i H' => ∃ rs : List Rw, H' D = some (.lst ((rs.map Rw.full).map fun z => SV (z ++ [10]))) ∧ rs.length = i ∧ itsR rs = (os.take i).filterMap Ol.it ∧ (∀ r ∈ rs, RwO r ∧ r.full.length ≤ 4020) ∧ Tk H4 H' ∧ H' pl = some (.lst ((lines t fs).map SV)) ∧ H' po = some (.lst (os.map fun o => SV o.l)) ∧ Dr H' d c) ?_ ?_ ?_ ?_
      · refine ⟨[], upd_same, rfl, rfl, by simp, T9.trans (.of (same_upd hD _)), ?_, ?_, D9.own nDd nDc⟩
        · rw [upd_ne nDl]; exact ep9
        · rw [upd_ne nDo]; exact M.lo
      · exact fun i H' _ ⟨_, _, _, _, _, _, _, e, _⟩ => SqL.of e
      · rintro i x H10 hx ⟨rs, k1, k2, k3, k4, k5, k6, k7, k8⟩
        obtain ⟨o, ho, rfl⟩ := map_at hx
        have hi := (List.getElem?_eq_some_iff.mp ho).1
        have oo := M.ok o (List.mem_of_getElem? ho)
        refine ⟨rfl, yes_if ⟨_, rfl, _, rfl, d, c, o.l, o.T, rfl, k8, oo.tk, oo.ok, oo.len, fun y e H11 hy hs hl he x11 D11 => ?_⟩⟩
        obtain ⟨r, r1, r2, r3⟩ := ol_rw oo hy hs he
        have le : e.length ≤ 20 := (by decide +kernel : ∀ e ∈ ENDS, e.length ≤ 20) e he
        have lr : (y ++ cs e).length ≤ 4020 := by rw [List.length_append, cs_len]; omega
        have e11 := x11.but _ _ nDd nDc k1
        refine ⟨_, _, rfl, rfl, by rw [mk_len]; show _ + 1 ≤ _; exact small7 (by omega), _, e11, by rw [List.length_map, List.length_map]; exact small1000 (by omega), rs ++ [r], ?_, ?_, ?_, fun r' hr' => ?_, ?_, ?_, ?_, D11.own nDd nDc⟩
        · rw [upd_same, List.map_append, List.map_append]
          show some (HO.lst (_ ++ [V.str (mkS (y ++ cs e) ++ "\n")])) = some (HO.lst (_ ++ [V.str (mkS (r.full ++ [10]))]))
          rw [r1, ← mk_app (y ++ cs e) [10]]; rfl
        · rw [List.length_append, k2]; rfl
        · unfold itsR at k3 ⊢
          rw [List.filterMap_append, k3, List.take_add_one, ho, List.filterMap_append]
          congr 1
          show List.filterMap Rw.it [r] = List.filterMap Ol.it [o]
          rw [List.filterMap_cons, List.filterMap_cons, r2]
          rfl
        · rcases List.mem_append.mp hr' with h | h
          · exact k4 r' h
          · rw [List.mem_singleton.mp h]; exact ⟨r3, by rw [r1]; exact lr⟩
        · exact (k5.trans (x11.tk k8)).trans (wr_tk e11)
        · rw [upd_ne nDl]; exact x11.but _ _ npd.1 npd.2 k6
        · rw [upd_ne nDo]; exact x11.but _ _ (ap po (.inr (.inr (.inr rfl)))).1 (ap po (.inr (.inr (.inr rfl)))).2 k7
      · rintro H10 ⟨rs, k1, k2, k3, k4, k5, k6, k7, k8⟩
        rw [List.length_map] at k2 k3
        rw [List.take_length] at k3
        have lf : ∀ x ∈ (rs.map Rw.full).map (· ++ [10]), x.length ≤ 4021 := fun x hx => by
          obtain ⟨z, hz, rfl⟩ := List.mem_map.mp hx
          obtain ⟨r, hr, rfl⟩ := List.mem_map.mp hz
          have := (k4 r hr).2
          rw [List.length_append, List.length_singleton]; omega
        have lt : (fullT (rs.map Rw.full)).length ≤ 200 * (4020 + 1) := full_le (by rw [List.length_map]; omega) fun x hx => by
          obtain ⟨r, hr, rfl⟩ := List.mem_map.mp hx
          exact (k4 r hr).2
        have hne : rs ≠ [] := fun e => by
          have h1 := M.il.len
          rw [← k3, e] at h1
          have h2 := hP.itNe
          unfold items at h2
          have h3 : itsA t ++ itsF fs = [] := List.length_eq_zero_iff.mp (by rw [List.length_append]; exact h1.symm)
          exact h2 h3
        refine ⟨"", D, ((rs.map Rw.full).map (· ++ [10])).map mkS, rfl, rfl, .inl (SqL.of (by rw [k1]; simp only [List.map_map]; rfl)), ?_, ?_⟩
        · have e2 : (((rs.map Rw.full).map (· ++ [10])).map mkS).map (fun x => x.length) = ((rs.map Rw.full).map (· ++ [10])).map List.length := by rw [List.map_map]; exact List.map_congr_left fun x _ => mk_len x
          have := sumj (ls := (rs.map Rw.full).map (· ++ [10])) (n := 200) (c := 4021) (g := 0) (by rw [List.length_map, List.length_map]; omega) lf (by decide)
          rw [e2, List.length_map]
          exact this
        rw [join_full]
        refine ⟨fun σ' H' => ∃ rs : List Rw, σ' = [some (.ref a), some (.ref d), some (.ref ta), some gv, some (.ref pl), some (.int fi), some (.ref pr), some (.ref po), y8, some (SV (fullT (rs.map Rw.full))), none] ∧ RdOk rs t fs ∧ Tk H4 H', ?_, ?_⟩
        · refine ⟨_, rfl, _, rfl, small8 (by rw [mk_len]; omega), _, _, rfl, rfl, _, rfl, ?_⟩
          rw [mk_len]
          by_cases h6 : 6000 < (fullT (rs.map Rw.full)).length
          · rw [show decide ((6000 : Int) < ((fullT (rs.map Rw.full)).length : Int)) = true from decide_eq_true (by omega)]
            refine iteT ?_
            have l900 : ∀ x ∈ lines t fs, x.length ≤ 900 := fun x hx => by
              rw [← line_items] at hx
              obtain ⟨it, hi, rfl⟩ := List.mem_map.mp hx
              exact (hP.itLn it hi).len
            refine tx_join (K := K) (g := "") (ls := (lines t fs).map (· ++ [10])) (lx_lcL (a := pl) (xs := (lines t fs).map SV) (j := 4) (k := 10) rfl (SqL.of k6) (by rw [List.length_map, List.length_map]) (by rw [List.length_map]; omega) fun i x y H' hx hy s' => ?_) ?_ H10 _ (.refl _) fun H11 s11 => ⟨(items t fs).map rwI, ?_, hP.rd, k5.trans (.of s11)⟩
            · obtain ⟨z, hz, rfl⟩ := map_at hx
              obtain ⟨z2, hz2, rfl⟩ := map_at hy
              rw [hz] at hz2
              cases hz2
              have := l900 z (List.mem_of_getElem? hz)
              exact tx_add (b := [10]) (tx_var rfl) tx_lit (by simp only [List.length_cons, List.length_nil]; omega)
            · refine sumj (n := 100) (c := 901) (by rw [List.length_map]; exact l100) (fun x hx => ?_) (by decide)
              obtain ⟨y, hy, rfl⟩ := List.mem_map.mp hx
              have := l900 y hy
              rw [List.length_append, List.length_singleton]; omega
            · rw [rw_full, line_items]
              show _ = _
              rw [show gj (cs ("" : Str)) ((lines t fs).map (· ++ [10])) = fullT (lines t fs) by show gj [] _ = _; rw [gj_nil]; rfl]
              rfl
          · rw [show decide ((6000 : Int) < ((fullT (rs.map Rw.full)).length : Int)) = false from decide_eq_false (by omega)]
            exact iteF ⟨rs, rfl, ⟨hne, by omega, by omega, fun r hr => (k4 r hr).1, by rw [k3]; exact M.il, hP⟩, k5⟩
        rintro σ H11 ⟨rs2, rfl, hR, T11⟩
        exact bt_read (i := 2) (j := 3) rfl rfl (iT4.tk T11) (iG4.tk T11) hR (tx_var rfl) H11 _ (.refl _) fun H' s' => q H'
    rw [show decide ((0 : Int) < (a2.length : Int) + (b2.length : Int)) = true from decide_eq_true (by omega)]
    refine iteT ⟨fun σ' H' => ∃ (y8 : Option V) (a1' a2' b1' b2' : List Item) (os' : List Ol), σ' = [some (.ref a), some (.ref d), some (.ref ta), some gv, some (.ref pl), some (.int fi), some (.ref pr), some (.ref po), y8, none, none] ∧ Mx t fs pa pb pr po a1' a2' b1' b2' os' H' ∧ Tk H4 H' ∧ H' pl = some (.lst ((lines t fs).map SV)) ∧ Dr H' d c ∧ a2'.length + b2'.length < a2.length + b2.length,
      fun σ' H' ⟨y8, a1', a2', b1', b2', os', r1, r2, r3, r4, r5, r6⟩ => ⟨_, r6, y8, a1', a2', b1', b2', os', r1, r2, r3, r4, r5, rfl⟩, ?_⟩
    refine ⟨_, rfl, d, c, 2, rfl, D9, by omega, by omega, fun r H10 r0 r2 x10 D10 => ?_⟩
    have M10 := M.ex ap x10
    have T10 := T9.trans (x10.tk D9)
    have ep10 := x10.but _ _ npd.1 npd.2 ep9
    refine ⟨fun σ' H' => ∃ sd : Int, σ' = [some (.ref a), some (.ref d), some (.ref ta), some gv, some (.ref pl), some (.int fi), some (.ref pr), some (.ref po), some (.int sd), none, none] ∧ H' = H10 ∧ ((sd = 0 ∧ a2 ≠ []) ∨ (sd = 1 ∧ b2 ≠ [])), ?_, ?_⟩
    · have h0 : ∀ {l : List Item}, decide (V.int ((((l.map lineI).map SV).length : Nat) : Int) = V.int 0) = decide (l = []) := fun {l} => by
        rw [List.length_map, List.length_map, dec_int, Bool.eq_iff_iff]
        simp only [beq_iff_eq, decide_eq_true_eq, ← List.length_eq_zero_iff]
        omega
      rcases (show r = 0 ∨ r = 1 by omega) with rfl | rfl
      · refine ⟨_, rfl, _, rfl, pr, _, _, _, rfl, rfl, SqL.of M10.lr, atI_nat (j := 0) rfl, pa, _, rfl, .inl (SqL.of M10.la), rfl, _, rfl, ?_⟩
        rw [h0]
        by_cases h : a2 = []
        · rw [decide_eq_true h]
          exact iteT ⟨_, rfl, _, _, rfl, rfl, 1, rfl, rfl, .inr ⟨rfl, fun e => by rw [h, e] at hz; exact hz rfl⟩⟩
        · rw [decide_eq_false h]
          exact iteF ⟨0, rfl, rfl, .inl ⟨rfl, h⟩⟩
      · refine ⟨_, rfl, _, rfl, pr, _, _, _, rfl, rfl, SqL.of M10.lr, atI_nat (j := 1) rfl, pb, _, rfl, .inl (SqL.of M10.lb), rfl, _, rfl, ?_⟩
        rw [h0]
        by_cases h : b2 = []
        · rw [decide_eq_true h]
          exact iteT ⟨_, rfl, _, _, rfl, rfl, 0, rfl, rfl, .inl ⟨rfl, fun e => by rw [h, e] at hz; exact hz rfl⟩⟩
        · rw [decide_eq_false h]
          exact iteF ⟨1, rfl, rfl, .inr ⟨rfl, h⟩⟩
    rintro σ H' ⟨sd, rfl, rfl, hsd⟩
    refine ⟨fun σ' H' => ∃ (a1' a2' b1' b2' : List Item) (os' : List Ol), σ' = [some (.ref a), some (.ref d), some (.ref ta), some gv, some (.ref pl), some (.int fi), some (.ref pr), some (.ref po), some (.int sd), none, none] ∧ Mx t fs pa pb pr po a1' a2' b1' b2' os' H' ∧ Tk H4 H' ∧ H' pl = some (.lst ((lines t fs).map SV)) ∧ Dr H' d c ∧ a2'.length + b2'.length < a2.length + b2.length ∧ os'.length + 1 ≤ 2 * (a1'.length + b1'.length), ?_, ?_⟩
    · have hom : ∀ it ∈ itsA t ++ itsF fs, OlOk (olI it) := fun it hi => hP.ol hi
      rcases hsd with ⟨rfl, hne⟩ | ⟨rfl, hne⟩
      · obtain ⟨x, r2, rfl⟩ : ∃ x r, a2 = x :: r := by cases a2 with | nil => exact absurd rfl hne | cons x r => exact ⟨x, r, rfl⟩
        have z0 : ixN (((x :: r2).map lineI).map SV).length 0 = some 0 := Evl.ixN_nat (j := 0) (by simp)
        have lo1 : (upd H' pa (.lst ((r2.map lineI).map SV))) po = some (.lst (os.map fun o => SV o.l)) := by rw [upd_ne npo.symm]; exact M10.lo
        refine ⟨_, rfl, .inl ⟨rfl, _, SqL.of M10.lo⟩, _, rfl, _, rfl, pr, _, _, _, rfl, rfl, SqL.of M10.lr, atI_nat (j := 0) rfl, .inl ⟨rfl, _, SqL.of M10.la⟩, pa, _, 0, 0, _, rfl, rfl, M10.la, by decide, by decide, (ixN_seq z0).1, rfl, po, _, _, rfl, rfl, lo1, ?_, ?_⟩
        · rw [List.length_map]; exact small1000 (by have := M10.ln; omega)
        refine ⟨a1 ++ [x], r2, b1, b2, os ++ [olI x], rfl, ⟨by rw [M10.ea]; simp, M10.eb, ?_, ?_, ?_, ?_, ?_, fun o ho => ?_, ?_, npb, npo, npo2⟩, ?_, ?_, ?_, ?_, ?_⟩
        · rw [upd_ne npo]; exact upd_same
        · rw [upd_ne npo2, upd_ne npb.symm]; exact M10.lb
        · rw [upd_ne npr3, upd_ne npr.symm]; exact M10.lr
        · rw [upd_same, List.map_append]; rfl
        · rw [List.filterMap_append]; exact M10.il.l
        · rcases List.mem_append.mp ho with h | h
          · exact M10.ok o h
          · rw [List.mem_singleton.mp h]; exact hom x (by rw [M10.ea]; simp)
        · have := M10.ln
          simp only [List.length_append, List.length_singleton]; omega
        · exact (T10.trans (wr_tk M10.la)).trans (wr_tk lo1)
        · rw [upd_ne npl.2.2.2, upd_ne npl.1]; exact ep10
        · exact (D10.own (ap pa (.inl rfl)).1 (ap pa (.inl rfl)).2).own (ap po (.inr (.inr (.inr rfl)))).1 (ap po (.inr (.inr (.inr rfl)))).2
        · rw [List.length_cons]; omega
        · have := M10.ln
          simp only [List.length_append, List.length_singleton]; omega
      · obtain ⟨x, r2, rfl⟩ : ∃ x r, b2 = x :: r := by cases b2 with | nil => exact absurd rfl hne | cons x r => exact ⟨x, r, rfl⟩
        have z0 : ixN (((x :: r2).map lineI).map SV).length 0 = some 0 := Evl.ixN_nat (j := 0) (by simp)
        have lo1 : (upd H' pb (.lst ((r2.map lineI).map SV))) po = some (.lst (os.map fun o => SV o.l)) := by rw [upd_ne npo2.symm]; exact M10.lo
        refine ⟨_, rfl, .inl ⟨rfl, _, SqL.of M10.lo⟩, _, rfl, _, rfl, pr, _, _, _, rfl, rfl, SqL.of M10.lr, atI_nat (j := 1) rfl, .inl ⟨rfl, _, SqL.of M10.lb⟩, pb, _, 0, 0, _, rfl, rfl, M10.lb, by decide, by decide, (ixN_seq z0).1, rfl, po, _, _, rfl, rfl, lo1, ?_, ?_⟩
        · rw [List.length_map]; exact small1000 (by have := M10.ln; omega)
        refine ⟨a1, a2, b1 ++ [x], r2, os ++ [olI x], rfl, ⟨M10.ea, by rw [M10.eb]; simp, ?_, ?_, ?_, ?_, ?_, fun o ho => ?_, ?_, npb, npo, npo2⟩, ?_, ?_, ?_, ?_, ?_⟩
        · rw [upd_ne npo, upd_ne npb]; exact M10.la
        · rw [upd_ne npo2]; exact upd_same
        · rw [upd_ne npr3, upd_ne npr2.symm]; exact M10.lr
        · rw [upd_same, List.map_append]; rfl
        · rw [List.filterMap_append]; exact M10.il.r
        · rcases List.mem_append.mp ho with h | h
          · exact M10.ok o h
          · rw [List.mem_singleton.mp h]; exact hom x (by rw [M10.eb]; simp)
        · have := M10.ln
          simp only [List.length_append, List.length_singleton]; omega
        · exact (T10.trans (wr_tk M10.lb)).trans (wr_tk lo1)
        · rw [upd_ne npl.2.2.2, upd_ne npl.2.1]; exact ep10
        · exact (D10.own (ap pb (.inr (.inl rfl))).1 (ap pb (.inr (.inl rfl))).2).own (ap po (.inr (.inr (.inr rfl)))).1 (ap po (.inr (.inr (.inr rfl)))).2
        · rw [List.length_cons]; omega
        · have := M10.ln
          simp only [List.length_append, List.length_singleton]; omega
    rintro σ H11 ⟨a1', a2', b1', b2', os', rfl, M11, T11, ep11, D11, lt, ln⟩
    refine ⟨_, rfl, d, c, 5, rfl, D11, by omega, by omega, fun r H12 _ _ x12 D12 => ⟨rfl, _, rfl, ite2 (fun _ => ?_) (fun _ => ?_)⟩⟩
    · have M12 := M11.ex ap x12
      have ep12 := x12.but _ _ npd.1 npd.2 ep11
      have hab2 : a1'.length + a2'.length = (itsA t).length ∧ b1'.length + b2'.length = (itsF fs).length := by rw [M11.ea, M11.eb, List.length_append, List.length_append]; exact ⟨rfl, rfl⟩
      refine ⟨_, rfl, .inl ⟨rfl, _, SqL.of M12.lo⟩, _, rfl, (by show 3 ≤ sizeLine; decide), fun pe hpe => ?_⟩
      obtain ⟨n1, n2⟩ := D12.free hpe
      have se := same_upd hpe (.lst (EXT.map V.str))
      refine ⟨d, c, pe, EXT.map V.str, rfl, D12.own n1 n2, .inl upd_same, n1, n2, by decide, by decide, fun x H13 hx x13 D13 => ?_⟩
      have M13 := (M12.keep fun b o _ e => se b o e).ex ap x13
      obtain ⟨z, hz2, rfl⟩ := List.mem_map.mp hx
      obtain ⟨TT, hol⟩ := ext_ol z hz2
      refine ⟨po, _, _, rfl, rfl, M13.lo, by rw [List.length_map]; exact small1000 (by omega), ?_⟩
      refine ⟨_, a1', a2', b1', b2', os' ++ [⟨cs z, TT, none⟩], rfl, ⟨M13.ea, M13.eb, ?_, ?_, ?_, ?_, ?_, fun o ho => ?_, ?_, npb, npo, npo2⟩, ?_, ?_, ?_, lt⟩
      · rw [upd_ne npo]; exact M13.la
      · rw [upd_ne npo2]; exact M13.lb
      · rw [upd_ne npr3]; exact M13.lr
      · rw [upd_same, List.map_append]; unfold SV; simp only [List.map_cons, List.map_nil, mk_cs]
      · rw [List.filterMap_append]; simpa using M13.il
      · rcases List.mem_append.mp ho with h | h
        · exact M13.ok o h
        · rw [List.mem_singleton.mp h]; exact hol
      · simp only [List.length_append, List.length_singleton]; omega
      · exact (((T11.trans (x12.tk D11)).trans (.of se)).trans (x13.tk (D12.own n1 n2))).trans (wr_tk M13.lo)
      · rw [upd_ne npl.2.2.2]; exact x13.but _ _ npd.1 npd.2 (se _ _ ep12)
      · exact D13.own (ap po (.inr (.inr (.inr rfl)))).1 (ap po (.inr (.inr (.inr rfl)))).2
    · exact ⟨_, a1', a2', b1', b2', os', rfl, M11.ex ap x12, T11.trans (x12.tk D11), x12.but _ _ npd.1 npd.2 ep11, D12, lt⟩
end
end Kx
set_option maxHeartbeats 4000000
/-! The end: the program's top leaves the defs where the text says. -/
namespace Kx
open PySem L2
theorem all_mk {l : PySem.W.OpenLaw} {w : World} {K : PySem.W.Frag} {h : Heap} {mg : Str → Option Value} {fa f0 f1 f2 f3 f4 f5 f6 f7 f8 f9 f10 f11 f12 f13 f14 f15 f16 f17 f18 f19 f20 f21 f22 f23 f24 f25 f26 f27 f28 f29 f30 f31 f32 f33 f34 f35 f36 f37 f38 f39 f40 f41 f42 f43 f44 f45 f46 f47 f48 f49 : Addr} (X : K.In h) (G : h.Ns mainGlobals mg) (hfa : mg "law" = some (.ref fa))
    {od0 an0 od1 an1 od2 an2 od3 an3 od4 an4 od5 an5 od6 an6 od7 an7 od8 an8 od9 an9 od10 an10 od11 an11 od12 an12 od13 an13 od14 an14 od15 an15 od16 an16 od17 an17 od18 an18 od19 an19 od20 an20 od21 an21 od22 an22 od23 an23 od24 an24 od25 an25 od26 an26 od27 an27 od28 an28 od29 an29 od30 an30 od31 an31 od32 an32 od33 an33 od34 an34 od35 an35 od36 an36 od37 an37 od38 an38 od39 an39 od40 an40 od41 an41 od42 an42 od43 an43 od44 an44 od45 an45 od46 an46 od47 an47 od48 an48 od49 an49 : Option Addr} {sl0 sl1 sl2 sl3 sl4 sl5 sl6 sl7 sl8 sl9 sl10 sl11 sl12 sl13 sl14 sl15 sl16 sl17 sl18 sl19 sl20 sl21 sl22 sl23 sl24 sl25 sl26 sl27 sl28 sl29 sl30 sl31 sl32 sl33 sl34 sl35 sl36 sl37 sl38 sl39 sl40 sl41 sl42 sl43 sl44 sl45 sl46 sl47 sl48 sl49 : Array (Option Value)} {oc0 kV0 dc0 pm0 cd0 ct0 oc1 kV1 dc1 pm1 cd1 ct1 oc2 kV2 dc2 pm2 cd2 ct2 oc3 kV3 dc3 pm3 cd3 ct3 oc4 kV4 dc4 pm4 cd4 ct4 oc5 kV5 dc5 pm5 cd5 ct5 oc6 kV6 dc6 pm6 cd6 ct6 oc7 kV7 dc7 pm7 cd7 ct7 oc8 kV8 dc8 pm8 cd8 ct8 oc9 kV9 dc9 pm9 cd9 ct9 oc10 kV10 dc10 pm10 cd10 ct10 oc11 kV11 dc11 pm11 cd11 ct11 oc12 kV12 dc12 pm12 cd12 ct12 oc13 kV13 dc13 pm13 cd13 ct13 oc14 kV14 dc14 pm14 cd14 ct14 oc15 kV15 dc15 pm15 cd15 ct15 oc16 kV16 dc16 pm16 cd16 ct16 oc17 kV17 dc17 pm17 cd17 ct17 oc18 kV18 dc18 pm18 cd18 ct18 oc19 kV19 dc19 pm19 cd19 ct19 oc20 kV20 dc20 pm20 cd20 ct20 oc21 kV21 dc21 pm21 cd21 ct21 oc22 kV22 dc22 pm22 cd22 ct22 oc23 kV23 dc23 pm23 cd23 ct23 oc24 kV24 dc24 pm24 cd24 ct24 oc25 kV25 dc25 pm25 cd25 ct25 oc26 kV26 dc26 pm26 cd26 ct26 oc27 kV27 dc27 pm27 cd27 ct27 oc28 kV28 dc28 pm28 cd28 ct28 oc29 kV29 dc29 pm29 cd29 ct29 oc30 kV30 dc30 pm30 cd30 ct30 oc31 kV31 dc31 pm31 cd31 ct31 oc32 kV32 dc32 pm32 cd32 ct32 oc33 kV33 dc33 pm33 cd33 ct33 oc34 kV34 dc34 pm34 cd34 ct34 oc35 kV35 dc35 pm35 cd35 ct35 oc36 kV36 dc36 pm36 cd36 ct36 oc37 kV37 dc37 pm37 cd37 ct37 oc38 kV38 dc38 pm38 cd38 ct38 oc39 kV39 dc39 pm39 cd39 ct39 oc40 kV40 dc40 pm40 cd40 ct40 oc41 kV41 dc41 pm41 cd41 ct41 oc42 kV42 dc42 pm42 cd42 ct42 oc43 kV43 dc43 pm43 cd43 ct43 oc44 kV44 dc44 pm44 cd44 ct44 oc45 kV45 dc45 pm45 cd45 ct45 oc46 kV46 dc46 pm46 cd46 ct46 oc47 kV47 dc47 pm47 cd47 ct47 oc48 kV48 dc48 pm48 cd48 ct48 oc49 kV49 dc49 pm49 cd49 ct49 : Value}
    {C0 : Addr} (aC0 : PySem.W.nsIn K mainGlobals "Line" = some (some (.ref C0))) (pg0 : PySem.W.plainGet K C0 Str.empty = true) (hd0 : PySem.W.hasDictIn K C0 = true) (po0 : PySem.W.plainOver K C0 = true) (sa0 : PySem.W.findIn K (.ref C0) "__setattr__" = some (some (.builtin "object.__setattr__"))) (mk0 : PySem.W.makesIn K C0 = true) (kc0 : PySem.W.keepIn K (.ref C0) = true) (nx0_0 : PySem.W.findIn K (.ref C0) "number" = some none) (nx0_1 : PySem.W.findIn K (.ref C0) "at" = some none) (nx0_2 : PySem.W.findIn K (.ref C0) "tokens" = some none)
    {C1 : Addr} (aC1 : PySem.W.nsIn K mainGlobals "Question" = some (some (.ref C1))) (pg1 : PySem.W.plainGet K C1 Str.empty = true) (hd1 : PySem.W.hasDictIn K C1 = true) (po1 : PySem.W.plainOver K C1 = true) (sa1 : PySem.W.findIn K (.ref C1) "__setattr__" = some (some (.builtin "object.__setattr__"))) (mk1 : PySem.W.makesIn K C1 = true) (kc1 : PySem.W.keepIn K (.ref C1) = true) 
    {C2 : Addr} (aC2 : PySem.W.nsIn K mainGlobals "Draft" = some (some (.ref C2))) (pg2 : PySem.W.plainGet K C2 Str.empty = true) (hd2 : PySem.W.hasDictIn K C2 = true) (po2 : PySem.W.plainOver K C2 = true) (sa2 : PySem.W.findIn K (.ref C2) "__setattr__" = some (some (.builtin "object.__setattr__"))) (mk2 : PySem.W.makesIn K C2 = true) (kc2 : PySem.W.keepIn K (.ref C2) = true) (nx2_0 : PySem.W.findIn K (.ref C2) "asks" = some none) (nx2_1 : PySem.W.findIn K (.ref C2) "makers" = some none) (nx2_2 : PySem.W.findIn K (.ref C2) "families" = some none) (nx2_3 : PySem.W.findIn K (.ref C2) "constructors" = some none) (nx2_4 : PySem.W.findIn K (.ref C2) "functions" = some none) (nx2_5 : PySem.W.findIn K (.ref C2) "questions" = some none)
    {ti0 : Tok} (gi0 : PySem.W.nsIn K mainGlobals "MOST_NAME" = some (some (.int 12 ti0)))
    {ti1 : Tok} (gi1 : PySem.W.nsIn K mainGlobals "MOST_TEXT" = some (some (.int 6000 ti1)))
    {ti2 : Tok} (gi2 : PySem.W.nsIn K mainGlobals "MOST_OPEN" = some (some (.int 40 ti2)))
    {ti3 : Tok} (gi3 : PySem.W.nsIn K mainGlobals "MOST_DIGITS" = some (some (.int 2 ti3)))
    {ti4 : Tok} (gi4 : PySem.W.nsIn K mainGlobals "PERCENT_CODE" = some (some (.int 37 ti4)))
    (a0 : PySem.W.nsIn K mainGlobals "is_word" = some (some (.ref f0))) (l0 : K.lookup f0 = some ⟨oc0, od0, .func (PySem.W.fnOf "is_word" "is_word" (defArgs s_is_word) (defBody s_is_word) (defScope s_is_word) .none kV0 dc0 pm0 an0 cd0 ct0), sl0⟩) (c0 : PySem.W.codeIn K cd0 "is_word" = true) (k0 : PySem.W.keepIn K (.ref f0) = true)
    (a1 : PySem.W.nsIn K mainGlobals "rows_of" = some (some (.ref f1))) (l1 : K.lookup f1 = some ⟨oc1, od1, .func (PySem.W.fnOf "rows_of" "rows_of" (defArgs s_rows_of) (defBody s_rows_of) (defScope s_rows_of) .none kV1 dc1 pm1 an1 cd1 ct1), sl1⟩) (c1 : PySem.W.codeIn K cd1 "rows_of" = true) (k1 : PySem.W.keepIn K (.ref f1) = true)
    (a2 : PySem.W.nsIn K mainGlobals "_is_allowed" = some (some (.ref f2))) (l2 : K.lookup f2 = some ⟨oc2, od2, .func (PySem.W.fnOf "_is_allowed" "_is_allowed" (defArgs s_is_allowed) (defBody s_is_allowed) (defScope s_is_allowed) .none kV2 dc2 pm2 an2 cd2 ct2), sl2⟩) (c2 : PySem.W.codeIn K cd2 "_is_allowed" = true) (k2 : PySem.W.keepIn K (.ref f2) = true)
    (a3 : PySem.W.findIn K (.ref C0) "__init__" = some (some (.ref f3))) (i3 : PySem.W.isFn K (.ref f3) = true) (l3 : K.lookup f3 = some ⟨oc3, od3, .func (PySem.W.fnOf "__init__" "Line.__init__" (defArgs s_Line_init) (defBody s_Line_init) (defScope s_Line_init) .none kV3 dc3 pm3 an3 cd3 ct3), sl3⟩) (c3 : PySem.W.codeIn K cd3 "Line.__init__" = true) (k3 : PySem.W.keepIn K (.ref f3) = true)
    (a4 : PySem.W.findIn K (.ref C0) "refuse" = some (some (.ref f4))) (i4 : PySem.W.isFn K (.ref f4) = true) (l4 : K.lookup f4 = some ⟨oc4, od4, .func (PySem.W.fnOf "refuse" "Line.refuse" (defArgs s_Line_refuse) (defBody s_Line_refuse) (defScope s_Line_refuse) .none kV4 dc4 pm4 an4 cd4 ct4), sl4⟩) (c4 : PySem.W.codeIn K cd4 "Line.refuse" = true) (k4 : PySem.W.keepIn K (.ref f4) = true)
    (a5 : PySem.W.findIn K (.ref C0) "comes" = some (some (.ref f5))) (i5 : PySem.W.isFn K (.ref f5) = true) (l5 : K.lookup f5 = some ⟨oc5, od5, .func (PySem.W.fnOf "comes" "Line.comes" (defArgs s_Line_comes) (defBody s_Line_comes) (defScope s_Line_comes) .none kV5 dc5 pm5 an5 cd5 ct5), sl5⟩) (c5 : PySem.W.codeIn K cd5 "Line.comes" = true) (k5 : PySem.W.keepIn K (.ref f5) = true)
    (a6 : PySem.W.findIn K (.ref C0) "take" = some (some (.ref f6))) (i6 : PySem.W.isFn K (.ref f6) = true) (l6 : K.lookup f6 = some ⟨oc6, od6, .func (PySem.W.fnOf "take" "Line.take" (defArgs s_Line_take) (defBody s_Line_take) (defScope s_Line_take) .none kV6 dc6 pm6 an6 cd6 ct6), sl6⟩) (c6 : PySem.W.codeIn K cd6 "Line.take" = true) (k6 : PySem.W.keepIn K (.ref f6) = true)
    (a7 : PySem.W.findIn K (.ref C0) "skip" = some (some (.ref f7))) (i7 : PySem.W.isFn K (.ref f7) = true) (l7 : K.lookup f7 = some ⟨oc7, od7, .func (PySem.W.fnOf "skip" "Line.skip" (defArgs s_Line_skip) (defBody s_Line_skip) (defScope s_Line_skip) .none kV7 dc7 pm7 an7 cd7 ct7), sl7⟩) (c7 : PySem.W.codeIn K cd7 "Line.skip" = true) (k7 : PySem.W.keepIn K (.ref f7) = true)
    (a8 : PySem.W.findIn K (.ref C0) "finish" = some (some (.ref f8))) (i8 : PySem.W.isFn K (.ref f8) = true) (l8 : K.lookup f8 = some ⟨oc8, od8, .func (PySem.W.fnOf "finish" "Line.finish" (defArgs s_Line_finish) (defBody s_Line_finish) (defScope s_Line_finish) .none kV8 dc8 pm8 an8 cd8 ct8), sl8⟩) (c8 : PySem.W.codeIn K cd8 "Line.finish" = true) (k8 : PySem.W.keepIn K (.ref f8) = true)
    (a9 : PySem.W.findIn K (.ref C0) "take_word" = some (some (.ref f9))) (i9 : PySem.W.isFn K (.ref f9) = true) (l9 : K.lookup f9 = some ⟨oc9, od9, .func (PySem.W.fnOf "take_word" "Line.take_word" (defArgs s_Line_take_word) (defBody s_Line_take_word) (defScope s_Line_take_word) .none kV9 dc9 pm9 an9 cd9 ct9), sl9⟩) (c9 : PySem.W.codeIn K cd9 "Line.take_word" = true) (k9 : PySem.W.keepIn K (.ref f9) = true)
    (a10 : PySem.W.findIn K (.ref C0) "take_number" = some (some (.ref f10))) (i10 : PySem.W.isFn K (.ref f10) = true) (l10 : K.lookup f10 = some ⟨oc10, od10, .func (PySem.W.fnOf "take_number" "Line.take_number" (defArgs s_Line_take_number) (defBody s_Line_take_number) (defScope s_Line_take_number) .none kV10 dc10 pm10 an10 cd10 ct10), sl10⟩) (c10 : PySem.W.codeIn K cd10 "Line.take_number" = true) (k10 : PySem.W.keepIn K (.ref f10) = true)
    (a11 : PySem.W.findIn K (.ref C0) "take_tree" = some (some (.ref f11))) (i11 : PySem.W.isFn K (.ref f11) = true) (l11 : K.lookup f11 = some ⟨oc11, od11, .func (PySem.W.fnOf "take_tree" "Line.take_tree" (defArgs s_Line_take_tree) (defBody s_Line_take_tree) (defScope s_Line_take_tree) .none kV11 dc11 pm11 an11 cd11 ct11), sl11⟩) (c11 : PySem.W.codeIn K cd11 "Line.take_tree" = true) (k11 : PySem.W.keepIn K (.ref f11) = true)
    (a12 : PySem.W.findIn K (.ref C0) "take_trees" = some (some (.ref f12))) (i12 : PySem.W.isFn K (.ref f12) = true) (l12 : K.lookup f12 = some ⟨oc12, od12, .func (PySem.W.fnOf "take_trees" "Line.take_trees" (defArgs s_Line_take_trees) (defBody s_Line_take_trees) (defScope s_Line_take_trees) .none kV12 dc12 pm12 an12 cd12 ct12), sl12⟩) (c12 : PySem.W.codeIn K cd12 "Line.take_trees" = true) (k12 : PySem.W.keepIn K (.ref f12) = true)
    (a13 : PySem.W.nsIn K mainGlobals "_tokens_of" = some (some (.ref f13))) (l13 : K.lookup f13 = some ⟨oc13, od13, .func (PySem.W.fnOf "_tokens_of" "_tokens_of" (defArgs s_tokens_of) (defBody s_tokens_of) (defScope s_tokens_of) .none kV13 dc13 pm13 an13 cd13 ct13), sl13⟩) (c13 : PySem.W.codeIn K cd13 "_tokens_of" = true) (k13 : PySem.W.keepIn K (.ref f13) = true)
    (a14 : PySem.W.nsIn K mainGlobals "_token_end" = some (some (.ref f14))) (l14 : K.lookup f14 = some ⟨oc14, od14, .func (PySem.W.fnOf "_token_end" "_token_end" (defArgs s_token_end) (defBody s_token_end) (defScope s_token_end) .none kV14 dc14 pm14 an14 cd14 ct14), sl14⟩) (c14 : PySem.W.codeIn K cd14 "_token_end" = true) (k14 : PySem.W.keepIn K (.ref f14) = true)
    (a15 : PySem.W.nsIn K mainGlobals "_is_number" = some (some (.ref f15))) (l15 : K.lookup f15 = some ⟨oc15, od15, .func (PySem.W.fnOf "_is_number" "_is_number" (defArgs s_is_number) (defBody s_is_number) (defScope s_is_number) .none kV15 dc15 pm15 an15 cd15 ct15), sl15⟩) (c15 : PySem.W.codeIn K cd15 "_is_number" = true) (k15 : PySem.W.keepIn K (.ref f15) = true)
    (a16 : PySem.W.nsIn K mainGlobals "_most_open" = some (some (.ref f16))) (l16 : K.lookup f16 = some ⟨oc16, od16, .func (PySem.W.fnOf "_most_open" "_most_open" (defArgs s_most_open) (defBody s_most_open) (defScope s_most_open) .none kV16 dc16 pm16 an16 cd16 ct16), sl16⟩) (c16 : PySem.W.codeIn K cd16 "_most_open" = true) (k16 : PySem.W.keepIn K (.ref f16) = true)
    (a17 : PySem.W.findIn K (.ref C1) "__init__" = some (some (.ref f17))) (i17 : PySem.W.isFn K (.ref f17) = true) (l17 : K.lookup f17 = some ⟨oc17, od17, .func (PySem.W.fnOf "__init__" "Question.__init__" (defArgs s_Question_init) (defBody s_Question_init) (defScope s_Question_init) .none kV17 dc17 pm17 an17 cd17 ct17), sl17⟩) (c17 : PySem.W.codeIn K cd17 "Question.__init__" = true) (k17 : PySem.W.keepIn K (.ref f17) = true)
    (a18 : PySem.W.nsIn K mainGlobals "take_question" = some (some (.ref f18))) (l18 : K.lookup f18 = some ⟨oc18, od18, .func (PySem.W.fnOf "take_question" "take_question" (defArgs s_take_question) (defBody s_take_question) (defScope s_take_question) .none kV18 dc18 pm18 an18 cd18 ct18), sl18⟩) (c18 : PySem.W.codeIn K cd18 "take_question" = true) (k18 : PySem.W.keepIn K (.ref f18) = true)
    (a19 : PySem.W.findIn K (.ref C2) "__init__" = some (some (.ref f19))) (i19 : PySem.W.isFn K (.ref f19) = true) (l19 : K.lookup f19 = some ⟨oc19, od19, .func (PySem.W.fnOf "__init__" "Draft.__init__" (defArgs s_Draft_init) (defBody s_Draft_init) (defScope s_Draft_init) .none kV19 dc19 pm19 an19 cd19 ct19), sl19⟩) (c19 : PySem.W.codeIn K cd19 "Draft.__init__" = true) (k19 : PySem.W.keepIn K (.ref f19) = true)
    (a20 : PySem.W.nsIn K mainGlobals "read" = some (some (.ref f20))) (l20 : K.lookup f20 = some ⟨oc20, od20, .func (PySem.W.fnOf "read" "read" (defArgs s_read) (defBody s_read) (defScope s_read) .none kV20 dc20 pm20 an20 cd20 ct20), sl20⟩) (c20 : PySem.W.codeIn K cd20 "read" = true) (k20 : PySem.W.keepIn K (.ref f20) = true)
    (a21 : PySem.W.nsIn K mainGlobals "_drafted" = some (some (.ref f21))) (l21 : K.lookup f21 = some ⟨oc21, od21, .func (PySem.W.fnOf "_drafted" "_drafted" (defArgs s_drafted) (defBody s_drafted) (defScope s_drafted) .none kV21 dc21 pm21 an21 cd21 ct21), sl21⟩) (c21 : PySem.W.codeIn K cd21 "_drafted" = true) (k21 : PySem.W.keepIn K (.ref f21) = true)
    (a22 : PySem.W.nsIn K mainGlobals "_take_line" = some (some (.ref f22))) (l22 : K.lookup f22 = some ⟨oc22, od22, .func (PySem.W.fnOf "_take_line" "_take_line" (defArgs s_take_line) (defBody s_take_line) (defScope s_take_line) .none kV22 dc22 pm22 an22 cd22 ct22), sl22⟩) (c22 : PySem.W.codeIn K cd22 "_take_line" = true) (k22 : PySem.W.keepIn K (.ref f22) = true)
    (a23 : PySem.W.nsIn K mainGlobals "_take_maker" = some (some (.ref f23))) (l23 : K.lookup f23 = some ⟨oc23, od23, .func (PySem.W.fnOf "_take_maker" "_take_maker" (defArgs s_take_maker) (defBody s_take_maker) (defScope s_take_maker) .none kV23 dc23 pm23 an23 cd23 ct23), sl23⟩) (c23 : PySem.W.codeIn K cd23 "_take_maker" = true) (k23 : PySem.W.keepIn K (.ref f23) = true)
    (a24 : PySem.W.nsIn K mainGlobals "_take_constructor" = some (some (.ref f24))) (l24 : K.lookup f24 = some ⟨oc24, od24, .func (PySem.W.fnOf "_take_constructor" "_take_constructor" (defArgs s_take_constructor) (defBody s_take_constructor) (defScope s_take_constructor) .none kV24 dc24 pm24 an24 cd24 ct24), sl24⟩) (c24 : PySem.W.codeIn K cd24 "_take_constructor" = true) (k24 : PySem.W.keepIn K (.ref f24) = true)
    (a25 : PySem.W.nsIn K mainGlobals "_take_function" = some (some (.ref f25))) (l25 : K.lookup f25 = some ⟨oc25, od25, .func (PySem.W.fnOf "_take_function" "_take_function" (defArgs s_take_function) (defBody s_take_function) (defScope s_take_function) .none kV25 dc25 pm25 an25 cd25 ct25), sl25⟩) (c25 : PySem.W.codeIn K cd25 "_take_function" = true) (k25 : PySem.W.keepIn K (.ref f25) = true)
    (a26 : PySem.W.nsIn K mainGlobals "_take_kinds" = some (some (.ref f26))) (l26 : K.lookup f26 = some ⟨oc26, od26, .func (PySem.W.fnOf "_take_kinds" "_take_kinds" (defArgs s_take_kinds) (defBody s_take_kinds) (defScope s_take_kinds) .none kV26 dc26 pm26 an26 cd26 ct26), sl26⟩) (c26 : PySem.W.codeIn K cd26 "_take_kinds" = true) (k26 : PySem.W.keepIn K (.ref f26) = true)
    (a27 : PySem.W.nsIn K mainGlobals "_take_kind" = some (some (.ref f27))) (l27 : K.lookup f27 = some ⟨oc27, od27, .func (PySem.W.fnOf "_take_kind" "_take_kind" (defArgs s_take_kind) (defBody s_take_kind) (defScope s_take_kind) .none kV27 dc27 pm27 an27 cd27 ct27), sl27⟩) (c27 : PySem.W.codeIn K cd27 "_take_kind" = true) (k27 : PySem.W.keepIn K (.ref f27) = true)
    (a28 : PySem.W.nsIn K mainGlobals "_take_clause" = some (some (.ref f28))) (l28 : K.lookup f28 = some ⟨oc28, od28, .func (PySem.W.fnOf "_take_clause" "_take_clause" (defArgs s_take_clause) (defBody s_take_clause) (defScope s_take_clause) .none kV28 dc28 pm28 an28 cd28 ct28), sl28⟩) (c28 : PySem.W.codeIn K cd28 "_take_clause" = true) (k28 : PySem.W.keepIn K (.ref f28) = true)
    (a29 : PySem.W.nsIn K mainGlobals "_table" = some (some (.ref f29))) (l29 : K.lookup f29 = some ⟨oc29, od29, .func (PySem.W.fnOf "_table" "_table" (defArgs s_table) (defBody s_table) (defScope s_table) .none kV29 dc29 pm29 an29 cd29 ct29), sl29⟩) (c29 : PySem.W.codeIn K cd29 "_table" = true) (k29 : PySem.W.keepIn K (.ref f29) = true)
    (a30 : PySem.W.nsIn K mainGlobals "_program" = some (some (.ref f30))) (l30 : K.lookup f30 = some ⟨oc30, od30, .func (PySem.W.fnOf "_program" "_program" (defArgs s_program) (defBody s_program) (defScope s_program) .none kV30 dc30 pm30 an30 cd30 ct30), sl30⟩) (c30 : PySem.W.codeIn K cd30 "_program" = true) (k30 : PySem.W.keepIn K (.ref f30) = true)
    (a31 : PySem.W.nsIn K mainGlobals "_constructor_words" = some (some (.ref f31))) (l31 : K.lookup f31 = some ⟨oc31, od31, .func (PySem.W.fnOf "_constructor_words" "_constructor_words" (defArgs s_constructor_words) (defBody s_constructor_words) (defScope s_constructor_words) .none kV31 dc31 pm31 an31 cd31 ct31), sl31⟩) (c31 : PySem.W.codeIn K cd31 "_constructor_words" = true) (k31 : PySem.W.keepIn K (.ref f31) = true)
    (a32 : PySem.W.nsIn K mainGlobals "_kinds" = some (some (.ref f32))) (l32 : K.lookup f32 = some ⟨oc32, od32, .func (PySem.W.fnOf "_kinds" "_kinds" (defArgs s_kinds) (defBody s_kinds) (defScope s_kinds) .none kV32 dc32 pm32 an32 cd32 ct32), sl32⟩) (c32 : PySem.W.codeIn K cd32 "_kinds" = true) (k32 : PySem.W.keepIn K (.ref f32) = true)
    (a33 : PySem.W.nsIn K mainGlobals "_clauses" = some (some (.ref f33))) (l33 : K.lookup f33 = some ⟨oc33, od33, .func (PySem.W.fnOf "_clauses" "_clauses" (defArgs s_clauses) (defBody s_clauses) (defScope s_clauses) .none kV33 dc33 pm33 an33 cd33 ct33), sl33⟩) (c33 : PySem.W.codeIn K cd33 "_clauses" = true) (k33 : PySem.W.keepIn K (.ref f33) = true)
    (a34 : PySem.W.nsIn K mainGlobals "_declared" = some (some (.ref f34))) (l34 : K.lookup f34 = some ⟨oc34, od34, .func (PySem.W.fnOf "_declared" "_declared" (defArgs s_declared) (defBody s_declared) (defScope s_declared) .none kV34 dc34 pm34 an34 cd34 ct34), sl34⟩) (c34 : PySem.W.codeIn K cd34 "_declared" = true) (k34 : PySem.W.keepIn K (.ref f34) = true)
    (a35 : PySem.W.nsIn K mainGlobals "_law_state" = some (some (.ref f35))) (l35 : K.lookup f35 = some ⟨oc35, od35, .func (PySem.W.fnOf "_law_state" "_law_state" (defArgs s_law_state) (defBody s_law_state) (defScope s_law_state) .none kV35 dc35 pm35 an35 cd35 ct35), sl35⟩) (c35 : PySem.W.codeIn K cd35 "_law_state" = true) (k35 : PySem.W.keepIn K (.ref f35) = true)
    (a36 : PySem.W.nsIn K mainGlobals "_law_draw" = some (some (.ref f36))) (l36 : K.lookup f36 = some ⟨oc36, od36, .func (PySem.W.fnOf "_law_draw" "_law_draw" (defArgs s_law_draw) (defBody s_law_draw) (defScope s_law_draw) .none kV36 dc36 pm36 an36 cd36 ct36), sl36⟩) (c36 : PySem.W.codeIn K cd36 "_law_draw" = true) (k36 : PySem.W.keepIn K (.ref f36) = true)
    (a37 : PySem.W.nsIn K mainGlobals "_law_pick" = some (some (.ref f37))) (l37 : K.lookup f37 = some ⟨oc37, od37, .func (PySem.W.fnOf "_law_pick" "_law_pick" (defArgs s_law_pick) (defBody s_law_pick) (defScope s_law_pick) .none kV37 dc37 pm37 an37 cd37 ct37), sl37⟩) (c37 : PySem.W.codeIn K cd37 "_law_pick" = true) (k37 : PySem.W.keepIn K (.ref f37) = true)
    (a38 : PySem.W.nsIn K mainGlobals "_law_tree" = some (some (.ref f38))) (l38 : K.lookup f38 = some ⟨oc38, od38, .func (PySem.W.fnOf "_law_tree" "_law_tree" (defArgs s_law_tree) (defBody s_law_tree) (defScope s_law_tree) .none kV38 dc38 pm38 an38 cd38 ct38), sl38⟩) (c38 : PySem.W.codeIn K cd38 "_law_tree" = true) (k38 : PySem.W.keepIn K (.ref f38) = true)
    (a39 : PySem.W.nsIn K mainGlobals "_law_types" = some (some (.ref f39))) (l39 : K.lookup f39 = some ⟨oc39, od39, .func (PySem.W.fnOf "_law_types" "_law_types" (defArgs s_law_types) (defBody s_law_types) (defScope s_law_types) .none kV39 dc39 pm39 an39 cd39 ct39), sl39⟩) (c39 : PySem.W.codeIn K cd39 "_law_types" = true) (k39 : PySem.W.keepIn K (.ref f39) = true)
    (a40 : PySem.W.nsIn K mainGlobals "_law_table" = some (some (.ref f40))) (l40 : K.lookup f40 = some ⟨oc40, od40, .func (PySem.W.fnOf "_law_table" "_law_table" (defArgs s_law_table) (defBody s_law_table) (defScope s_law_table) .none kV40 dc40 pm40 an40 cd40 ct40), sl40⟩) (c40 : PySem.W.codeIn K cd40 "_law_table" = true) (k40 : PySem.W.keepIn K (.ref f40) = true)
    (a41 : PySem.W.nsIn K mainGlobals "_law_clause" = some (some (.ref f41))) (l41 : K.lookup f41 = some ⟨oc41, od41, .func (PySem.W.fnOf "_law_clause" "_law_clause" (defArgs s_law_clause) (defBody s_law_clause) (defScope s_law_clause) .none kV41 dc41 pm41 an41 cd41 ct41), sl41⟩) (c41 : PySem.W.codeIn K cd41 "_law_clause" = true) (k41 : PySem.W.keepIn K (.ref f41) = true)
    (a42 : PySem.W.nsIn K mainGlobals "_law_program" = some (some (.ref f42))) (l42 : K.lookup f42 = some ⟨oc42, od42, .func (PySem.W.fnOf "_law_program" "_law_program" (defArgs s_law_program) (defBody s_law_program) (defScope s_law_program) .none kV42 dc42 pm42 an42 cd42 ct42), sl42⟩) (c42 : PySem.W.codeIn K cd42 "_law_program" = true) (k42 : PySem.W.keepIn K (.ref f42) = true)
    (a43 : PySem.W.nsIn K mainGlobals "_law_text" = some (some (.ref f43))) (l43 : K.lookup f43 = some ⟨oc43, od43, .func (PySem.W.fnOf "_law_text" "_law_text" (defArgs s_law_text) (defBody s_law_text) (defScope s_law_text) .none kV43 dc43 pm43 an43 cd43 ct43), sl43⟩) (c43 : PySem.W.codeIn K cd43 "_law_text" = true) (k43 : PySem.W.keepIn K (.ref f43) = true)
    (a44 : PySem.W.nsIn K mainGlobals "_law_pairs" = some (some (.ref f44))) (l44 : K.lookup f44 = some ⟨oc44, od44, .func (PySem.W.fnOf "_law_pairs" "_law_pairs" (defArgs s_law_pairs) (defBody s_law_pairs) (defScope s_law_pairs) .none kV44 dc44 pm44 an44 cd44 ct44), sl44⟩) (c44 : PySem.W.codeIn K cd44 "_law_pairs" = true) (k44 : PySem.W.keepIn K (.ref f44) = true)
    (a45 : PySem.W.nsIn K mainGlobals "_law_lines" = some (some (.ref f45))) (l45 : K.lookup f45 = some ⟨oc45, od45, .func (PySem.W.fnOf "_law_lines" "_law_lines" (defArgs s_law_lines) (defBody s_law_lines) (defScope s_law_lines) .none kV45 dc45 pm45 an45 cd45 ct45), sl45⟩) (c45 : PySem.W.codeIn K cd45 "_law_lines" = true) (k45 : PySem.W.keepIn K (.ref f45) = true)
    (a46 : PySem.W.nsIn K mainGlobals "_law_is_letter" = some (some (.ref f46))) (l46 : K.lookup f46 = some ⟨oc46, od46, .func (PySem.W.fnOf "_law_is_letter" "_law_is_letter" (defArgs s_law_is_letter) (defBody s_law_is_letter) (defScope s_law_is_letter) .none kV46 dc46 pm46 an46 cd46 ct46), sl46⟩) (c46 : PySem.W.codeIn K cd46 "_law_is_letter" = true) (k46 : PySem.W.keepIn K (.ref f46) = true)
    (a47 : PySem.W.nsIn K mainGlobals "_law_spread" = some (some (.ref f47))) (l47 : K.lookup f47 = some ⟨oc47, od47, .func (PySem.W.fnOf "_law_spread" "_law_spread" (defArgs s_law_spread) (defBody s_law_spread) (defScope s_law_spread) .none kV47 dc47 pm47 an47 cd47 ct47), sl47⟩) (c47 : PySem.W.codeIn K cd47 "_law_spread" = true) (k47 : PySem.W.keepIn K (.ref f47) = true)
    (a48 : PySem.W.nsIn K mainGlobals "_law_same" = some (some (.ref f48))) (l48 : K.lookup f48 = some ⟨oc48, od48, .func (PySem.W.fnOf "_law_same" "_law_same" (defArgs s_law_same) (defBody s_law_same) (defScope s_law_same) .none kV48 dc48 pm48 an48 cd48 ct48), sl48⟩) (c48 : PySem.W.codeIn K cd48 "_law_same" = true) (k48 : PySem.W.keepIn K (.ref f48) = true)
    (a49 : PySem.W.nsIn K mainGlobals "law" = some (some (.ref f49))) (l49 : K.lookup f49 = some ⟨oc49, od49, .func (PySem.W.fnOf "law" "law" (defArgs s_law) (defBody s_law) (defScope s_law) .none kV49 dc49 pm49 an49 cd49 ct49), sl49⟩) (c49 : PySem.W.codeIn K cd49 "law" = true) (k49 : PySem.W.keepIn K (.ref f49) = true)
    (z0 : PySem.W.nsIn K mainGlobals "isinstance" = some none)
    (z1 : PySem.W.nsIn K mainGlobals "str" = some none)
    (z2 : PySem.W.nsIn K mainGlobals "len" = some none)
    (z3 : PySem.W.nsIn K mainGlobals "ord" = some none)
    (z4 : PySem.W.nsIn K mainGlobals "int" = some none)
    (z5 : PySem.W.nsIn K mainGlobals "tuple" = some none)
    (z6 : PySem.W.nsIn K mainGlobals "max" = some none)
    (z7 : PySem.W.nsIn K mainGlobals "enumerate" = some none)
    (z8 : PySem.W.nsIn K mainGlobals "dict" = some none)
    (z9 : PySem.W.nsIn K mainGlobals "abs" = some none)
    (z10 : PySem.W.nsIn K mainGlobals "range" = some none)
    (z11 : PySem.W.nsIn K mainGlobals "bool" = some none)
    (z12 : PySem.W.nsIn K mainGlobals "list" = some none)
    : ∃ fd : FuncData, (∀ (s : Shared) (v : Value), BindsTo s fd ⟨[v], []⟩ [("script", v)]) ∧ ∀ base : Heap, K.In base → base.Ns mainGlobals mg → FnOk l.prog w K mg base CX0 16 fa fd ["script"] (spLaw K) := by
  have e := hfa.symm.trans (PySem.W.mg_of X G a49)
  cases e
  let T : Txt K mg := {
    c_Line := C0, cl_Line := ⟨pg0, hd0, po0, sa0⟩, mg_Line := PySem.W.mg_of X G aC0,
    no_Line_number := nx0_0,
    no_Line_at := nx0_1,
    no_Line_tokens := nx0_2,
    mk_Line := ⟨mk0, a3, i3, kc0⟩,
    c_Question := C1, cl_Question := ⟨pg1, hd1, po1, sa1⟩, mg_Question := PySem.W.mg_of X G aC1,
    mk_Question := ⟨mk1, a17, i17, kc1⟩,
    c_Draft := C2, cl_Draft := ⟨pg2, hd2, po2, sa2⟩, mg_Draft := PySem.W.mg_of X G aC2,
    no_Draft_asks := nx2_0,
    no_Draft_makers := nx2_1,
    no_Draft_families := nx2_2,
    no_Draft_constructors := nx2_3,
    no_Draft_functions := nx2_4,
    no_Draft_questions := nx2_5,
    mk_Draft := ⟨mk2, a19, i19, kc2⟩,
    t_MOST_NAME := ti0, g_MOST_NAME := PySem.W.mg_of X G gi0,
    t_MOST_TEXT := ti1, g_MOST_TEXT := PySem.W.mg_of X G gi1,
    t_MOST_OPEN := ti2, g_MOST_OPEN := PySem.W.mg_of X G gi2,
    t_MOST_DIGITS := ti3, g_MOST_DIGITS := PySem.W.mg_of X G gi3,
    t_PERCENT_CODE := ti4, g_PERCENT_CODE := PySem.W.mg_of X G gi4,
    a_is_word := f0, d_is_word := _, F_is_word := fun_mk (st := s_is_word) l0 c0 k0, b_is_word := (fun_mk (st := s_is_word) l0 c0 k0).binds (ps := ["value"]) (fun _ _ _ _ _ _ us hl => match us, hl with | [_], _ => rfl), m_is_word := PySem.W.mg_of X G a0,
    a_rows_of := f1, d_rows_of := _, F_rows_of := fun_mk (st := s_rows_of) l1 c1 k1, b_rows_of := (fun_mk (st := s_rows_of) l1 c1 k1).binds (ps := ["text"]) (fun _ _ _ _ _ _ us hl => match us, hl with | [_], _ => rfl), m_rows_of := PySem.W.mg_of X G a1,
    a_is_allowed := f2, d_is_allowed := _, F_is_allowed := fun_mk (st := s_is_allowed) l2 c2 k2, b_is_allowed := (fun_mk (st := s_is_allowed) l2 c2 k2).binds (ps := ["sign"]) (fun _ _ _ _ _ _ us hl => match us, hl with | [_], _ => rfl), m_is_allowed := PySem.W.mg_of X G a2,
    a_Line_init := f3, d_Line_init := _, F_Line_init := fun_mk (st := s_Line_init) l3 c3 k3, b_Line_init := (fun_mk (st := s_Line_init) l3 c3 k3).binds (ps := ["self", "row", "number"]) (fun _ _ _ _ _ _ us hl => match us, hl with | [_, _, _], _ => rfl), me_Line_init := ⟨a3, i3, k3⟩,
    a_Line_refuse := f4, d_Line_refuse := _, F_Line_refuse := fun_mk (st := s_Line_refuse) l4 c4 k4, b_Line_refuse := (fun_mk (st := s_Line_refuse) l4 c4 k4).binds (ps := ["self"]) (fun _ _ _ _ _ _ us hl => match us, hl with | [_], _ => rfl), me_Line_refuse := ⟨a4, i4, k4⟩,
    a_Line_comes := f5, d_Line_comes := _, F_Line_comes := fun_mk (st := s_Line_comes) l5 c5 k5, b_Line_comes := (fun_mk (st := s_Line_comes) l5 c5 k5).binds (ps := ["self", "token"]) (fun _ _ _ _ _ _ us hl => match us, hl with | [_, _], _ => rfl), me_Line_comes := ⟨a5, i5, k5⟩,
    a_Line_take := f6, d_Line_take := _, F_Line_take := fun_mk (st := s_Line_take) l6 c6 k6, b_Line_take := (fun_mk (st := s_Line_take) l6 c6 k6).binds (ps := ["self"]) (fun _ _ _ _ _ _ us hl => match us, hl with | [_], _ => rfl), me_Line_take := ⟨a6, i6, k6⟩,
    a_Line_skip := f7, d_Line_skip := _, F_Line_skip := fun_mk (st := s_Line_skip) l7 c7 k7, b_Line_skip := (fun_mk (st := s_Line_skip) l7 c7 k7).binds (ps := ["self", "token"]) (fun _ _ _ _ _ _ us hl => match us, hl with | [_, _], _ => rfl), me_Line_skip := ⟨a7, i7, k7⟩,
    a_Line_finish := f8, d_Line_finish := _, F_Line_finish := fun_mk (st := s_Line_finish) l8 c8 k8, b_Line_finish := (fun_mk (st := s_Line_finish) l8 c8 k8).binds (ps := ["self"]) (fun _ _ _ _ _ _ us hl => match us, hl with | [_], _ => rfl), me_Line_finish := ⟨a8, i8, k8⟩,
    a_Line_take_word := f9, d_Line_take_word := _, F_Line_take_word := fun_mk (st := s_Line_take_word) l9 c9 k9, b_Line_take_word := (fun_mk (st := s_Line_take_word) l9 c9 k9).binds (ps := ["self"]) (fun _ _ _ _ _ _ us hl => match us, hl with | [_], _ => rfl), me_Line_take_word := ⟨a9, i9, k9⟩,
    a_Line_take_number := f10, d_Line_take_number := _, F_Line_take_number := fun_mk (st := s_Line_take_number) l10 c10 k10, b_Line_take_number := (fun_mk (st := s_Line_take_number) l10 c10 k10).binds (ps := ["self"]) (fun _ _ _ _ _ _ us hl => match us, hl with | [_], _ => rfl), me_Line_take_number := ⟨a10, i10, k10⟩,
    a_Line_take_tree := f11, d_Line_take_tree := _, F_Line_take_tree := fun_mk (st := s_Line_take_tree) l11 c11 k11, b_Line_take_tree := (fun_mk (st := s_Line_take_tree) l11 c11 k11).binds (ps := ["self"]) (fun _ _ _ _ _ _ us hl => match us, hl with | [_], _ => rfl), me_Line_take_tree := ⟨a11, i11, k11⟩,
    a_Line_take_trees := f12, d_Line_take_trees := _, F_Line_take_trees := fun_mk (st := s_Line_take_trees) l12 c12 k12, b_Line_take_trees := (fun_mk (st := s_Line_take_trees) l12 c12 k12).binds (ps := ["self"]) (fun _ _ _ _ _ _ us hl => match us, hl with | [_], _ => rfl), me_Line_take_trees := ⟨a12, i12, k12⟩,
    a_tokens_of := f13, d_tokens_of := _, F_tokens_of := fun_mk (st := s_tokens_of) l13 c13 k13, b_tokens_of := (fun_mk (st := s_tokens_of) l13 c13 k13).binds (ps := ["row"]) (fun _ _ _ _ _ _ us hl => match us, hl with | [_], _ => rfl), m_tokens_of := PySem.W.mg_of X G a13,
    a_token_end := f14, d_token_end := _, F_token_end := fun_mk (st := s_token_end) l14 c14 k14, b_token_end := (fun_mk (st := s_token_end) l14 c14 k14).binds (ps := ["row", "start"]) (fun _ _ _ _ _ _ us hl => match us, hl with | [_, _], _ => rfl), m_token_end := PySem.W.mg_of X G a14,
    a_is_number := f15, d_is_number := _, F_is_number := fun_mk (st := s_is_number) l15 c15 k15, b_is_number := (fun_mk (st := s_is_number) l15 c15 k15).binds (ps := ["token"]) (fun _ _ _ _ _ _ us hl => match us, hl with | [_], _ => rfl), m_is_number := PySem.W.mg_of X G a15,
    a_most_open := f16, d_most_open := _, F_most_open := fun_mk (st := s_most_open) l16 c16 k16, b_most_open := (fun_mk (st := s_most_open) l16 c16 k16).binds (ps := ["tokens"]) (fun _ _ _ _ _ _ us hl => match us, hl with | [_], _ => rfl), m_most_open := PySem.W.mg_of X G a16,
    a_Question_init := f17, d_Question_init := _, F_Question_init := fun_mk (st := s_Question_init) l17 c17 k17, b_Question_init := (fun_mk (st := s_Question_init) l17 c17 k17).binds (ps := ["self", "word"]) (fun _ _ _ _ _ _ us hl => match us, hl with | [_, _], _ => rfl), me_Question_init := ⟨a17, i17, k17⟩,
    a_take_question := f18, d_take_question := _, F_take_question := fun_mk (st := s_take_question) l18 c18 k18, b_take_question := (fun_mk (st := s_take_question) l18 c18 k18).binds (ps := ["line"]) (fun _ _ _ _ _ _ us hl => match us, hl with | [_], _ => rfl), m_take_question := PySem.W.mg_of X G a18,
    a_Draft_init := f19, d_Draft_init := _, F_Draft_init := fun_mk (st := s_Draft_init) l19 c19 k19, b_Draft_init := (fun_mk (st := s_Draft_init) l19 c19 k19).binds (ps := ["self", "asks"]) (fun _ _ _ _ _ _ us hl => match us, hl with | [_, _], _ => rfl), me_Draft_init := ⟨a19, i19, k19⟩,
    a_read := f20, d_read := _, F_read := fun_mk (st := s_read) l20 c20 k20, b_read := (fun_mk (st := s_read) l20 c20 k20).binds (ps := ["text"]) (fun _ _ _ _ _ _ us hl => match us, hl with | [_], _ => rfl), m_read := PySem.W.mg_of X G a20,
    a_drafted := f21, d_drafted := _, F_drafted := fun_mk (st := s_drafted) l21 c21 k21, b_drafted := (fun_mk (st := s_drafted) l21 c21 k21).binds (ps := ["text", "asks"]) (fun _ _ _ _ _ _ us hl => match us, hl with | [_, _], _ => rfl), m_drafted := PySem.W.mg_of X G a21,
    a_take_line := f22, d_take_line := _, F_take_line := fun_mk (st := s_take_line) l22 c22 k22, b_take_line := (fun_mk (st := s_take_line) l22 c22 k22).binds (ps := ["draft", "line"]) (fun _ _ _ _ _ _ us hl => match us, hl with | [_, _], _ => rfl), m_take_line := PySem.W.mg_of X G a22,
    a_take_maker := f23, d_take_maker := _, F_take_maker := fun_mk (st := s_take_maker) l23 c23 k23, b_take_maker := (fun_mk (st := s_take_maker) l23 c23 k23).binds (ps := ["draft", "line"]) (fun _ _ _ _ _ _ us hl => match us, hl with | [_, _], _ => rfl), m_take_maker := PySem.W.mg_of X G a23,
    a_take_constructor := f24, d_take_constructor := _, F_take_constructor := fun_mk (st := s_take_constructor) l24 c24 k24, b_take_constructor := (fun_mk (st := s_take_constructor) l24 c24 k24).binds (ps := ["draft", "line"]) (fun _ _ _ _ _ _ us hl => match us, hl with | [_, _], _ => rfl), m_take_constructor := PySem.W.mg_of X G a24,
    a_take_function := f25, d_take_function := _, F_take_function := fun_mk (st := s_take_function) l25 c25 k25, b_take_function := (fun_mk (st := s_take_function) l25 c25 k25).binds (ps := ["draft", "line"]) (fun _ _ _ _ _ _ us hl => match us, hl with | [_, _], _ => rfl), m_take_function := PySem.W.mg_of X G a25,
    a_take_kinds := f26, d_take_kinds := _, F_take_kinds := fun_mk (st := s_take_kinds) l26 c26 k26, b_take_kinds := (fun_mk (st := s_take_kinds) l26 c26 k26).binds (ps := ["line"]) (fun _ _ _ _ _ _ us hl => match us, hl with | [_], _ => rfl), m_take_kinds := PySem.W.mg_of X G a26,
    a_take_kind := f27, d_take_kind := _, F_take_kind := fun_mk (st := s_take_kind) l27 c27 k27, b_take_kind := (fun_mk (st := s_take_kind) l27 c27 k27).binds (ps := ["line"]) (fun _ _ _ _ _ _ us hl => match us, hl with | [_], _ => rfl), m_take_kind := PySem.W.mg_of X G a27,
    a_take_clause := f28, d_take_clause := _, F_take_clause := fun_mk (st := s_take_clause) l28 c28 k28, b_take_clause := (fun_mk (st := s_take_clause) l28 c28 k28).binds (ps := ["draft", "line"]) (fun _ _ _ _ _ _ us hl => match us, hl with | [_, _], _ => rfl), m_take_clause := PySem.W.mg_of X G a28,
    a_table := f29, d_table := _, F_table := fun_mk (st := s_table) l29 c29 k29, b_table := (fun_mk (st := s_table) l29 c29 k29).binds (ps := ["draft"]) (fun _ _ _ _ _ _ us hl => match us, hl with | [_], _ => rfl), m_table := PySem.W.mg_of X G a29,
    a_program := f30, d_program := _, F_program := fun_mk (st := s_program) l30 c30 k30, b_program := (fun_mk (st := s_program) l30 c30 k30).binds (ps := ["draft"]) (fun _ _ _ _ _ _ us hl => match us, hl with | [_], _ => rfl), m_program := PySem.W.mg_of X G a30,
    a_constructor_words := f31, d_constructor_words := _, F_constructor_words := fun_mk (st := s_constructor_words) l31 c31 k31, b_constructor_words := (fun_mk (st := s_constructor_words) l31 c31 k31).binds (ps := ["draft"]) (fun _ _ _ _ _ _ us hl => match us, hl with | [_], _ => rfl), m_constructor_words := PySem.W.mg_of X G a31,
    a_kinds := f32, d_kinds := _, F_kinds := fun_mk (st := s_kinds) l32 c32 k32, b_kinds := (fun_mk (st := s_kinds) l32 c32 k32).binds (ps := ["kinds", "makers"]) (fun _ _ _ _ _ _ us hl => match us, hl with | [_, _], _ => rfl), m_kinds := PySem.W.mg_of X G a32,
    a_clauses := f33, d_clauses := _, F_clauses := fun_mk (st := s_clauses) l33 c33 k33, b_clauses := (fun_mk (st := s_clauses) l33 c33 k33).binds (ps := ["clauses", "constructors"]) (fun _ _ _ _ _ _ us hl => match us, hl with | [_, _], _ => rfl), m_clauses := PySem.W.mg_of X G a33,
    a_declared := f34, d_declared := _, F_declared := fun_mk (st := s_declared) l34 c34 k34, b_declared := (fun_mk (st := s_declared) l34 c34 k34).binds (ps := ["tree", "words"]) (fun _ _ _ _ _ _ us hl => match us, hl with | [_, _], _ => rfl), m_declared := PySem.W.mg_of X G a34,
    a_law_state := f35, d_law_state := _, F_law_state := fun_mk (st := s_law_state) l35 c35 k35, b_law_state := (fun_mk (st := s_law_state) l35 c35 k35).binds (ps := ["script"]) (fun _ _ _ _ _ _ us hl => match us, hl with | [_], _ => rfl), m_law_state := PySem.W.mg_of X G a35,
    a_law_draw := f36, d_law_draw := _, F_law_draw := fun_mk (st := s_law_draw) l36 c36 k36, b_law_draw := (fun_mk (st := s_law_draw) l36 c36 k36).binds (ps := ["state", "many"]) (fun _ _ _ _ _ _ us hl => match us, hl with | [_, _], _ => rfl), m_law_draw := PySem.W.mg_of X G a36,
    a_law_pick := f37, d_law_pick := _, F_law_pick := fun_mk (st := s_law_pick) l37 c37 k37, b_law_pick := (fun_mk (st := s_law_pick) l37 c37 k37).binds (ps := ["state", "row"]) (fun _ _ _ _ _ _ us hl => match us, hl with | [_, _], _ => rfl), m_law_pick := PySem.W.mg_of X G a37,
    a_law_tree := f38, d_law_tree := _, F_law_tree := fun_mk (st := s_law_tree) l38 c38 k38, b_law_tree := (fun_mk (st := s_law_tree) l38 c38 k38).binds (ps := ["state", "words", "names", "more", "deep"]) (fun _ _ _ _ _ _ us hl => match us, hl with | [_, _, _, _, _], _ => rfl), m_law_tree := PySem.W.mg_of X G a38,
    a_law_types := f39, d_law_types := _, F_law_types := fun_mk (st := s_law_types) l39 c39 k39, b_law_types := (fun_mk (st := s_law_types) l39 c39 k39).binds (ps := ["state", "families", "makers", "names", "many"]) (fun _ _ _ _ _ _ us hl => match us, hl with | [_, _, _, _, _], _ => rfl), m_law_types := PySem.W.mg_of X G a39,
    a_law_table := f40, d_law_table := _, F_law_table := fun_mk (st := s_law_table) l40 c40 k40, b_law_table := (fun_mk (st := s_law_table) l40 c40 k40).binds (ps := ["state"]) (fun _ _ _ _ _ _ us hl => match us, hl with | [_], _ => rfl), m_law_table := PySem.W.mg_of X G a40,
    a_law_clause := f41, d_law_clause := _, F_law_clause := fun_mk (st := s_law_clause) l41 c41 k41, b_law_clause := (fun_mk (st := s_law_clause) l41 c41 k41).binds (ps := ["state", "constructors", "many"]) (fun _ _ _ _ _ _ us hl => match us, hl with | [_, _, _], _ => rfl), m_law_clause := PySem.W.mg_of X G a41,
    a_law_program := f42, d_law_program := _, F_law_program := fun_mk (st := s_law_program) l42 c42 k42, b_law_program := (fun_mk (st := s_law_program) l42 c42 k42).binds (ps := ["state", "table"]) (fun _ _ _ _ _ _ us hl => match us, hl with | [_, _], _ => rfl), m_law_program := PySem.W.mg_of X G a42,
    a_law_text := f43, d_law_text := _, F_law_text := fun_mk (st := s_law_text) l43 c43 k43, b_law_text := (fun_mk (st := s_law_text) l43 c43 k43).binds (ps := ["tree"]) (fun _ _ _ _ _ _ us hl => match us, hl with | [_], _ => rfl), m_law_text := PySem.W.mg_of X G a43,
    a_law_pairs := f44, d_law_pairs := _, F_law_pairs := fun_mk (st := s_law_pairs) l44 c44 k44, b_law_pairs := (fun_mk (st := s_law_pairs) l44 c44 k44).binds (ps := ["pairs"]) (fun _ _ _ _ _ _ us hl => match us, hl with | [_], _ => rfl), m_law_pairs := PySem.W.mg_of X G a44,
    a_law_lines := f45, d_law_lines := _, F_law_lines := fun_mk (st := s_law_lines) l45 c45 k45, b_law_lines := (fun_mk (st := s_law_lines) l45 c45 k45).binds (ps := ["table", "program"]) (fun _ _ _ _ _ _ us hl => match us, hl with | [_, _], _ => rfl), m_law_lines := PySem.W.mg_of X G a45,
    a_law_is_letter := f46, d_law_is_letter := _, F_law_is_letter := fun_mk (st := s_law_is_letter) l46 c46 k46, b_law_is_letter := (fun_mk (st := s_law_is_letter) l46 c46 k46).binds (ps := ["char"]) (fun _ _ _ _ _ _ us hl => match us, hl with | [_], _ => rfl), m_law_is_letter := PySem.W.mg_of X G a46,
    a_law_spread := f47, d_law_spread := _, F_law_spread := fun_mk (st := s_law_spread) l47 c47 k47, b_law_spread := (fun_mk (st := s_law_spread) l47 c47 k47).binds (ps := ["state", "line"]) (fun _ _ _ _ _ _ us hl => match us, hl with | [_, _], _ => rfl), m_law_spread := PySem.W.mg_of X G a47,
    a_law_same := f48, d_law_same := _, F_law_same := fun_mk (st := s_law_same) l48 c48 k48, b_law_same := (fun_mk (st := s_law_same) l48 c48 k48).binds (ps := ["told", "due"]) (fun _ _ _ _ _ _ us hl => match us, hl with | [_, _], _ => rfl), m_law_same := PySem.W.mg_of X G a48,
    a_law := fa, d_law := _, F_law := fun_mk (st := s_law) l49 c49 k49, b_law := (fun_mk (st := s_law) l49 c49 k49).binds (ps := ["script"]) (fun _ _ _ _ _ _ us hl => match us, hl with | [_], _ => rfl), m_law := PySem.W.mg_of X G a49,
    z_isinstance := PySem.W.mg_none_of X G z0,
    z_str := PySem.W.mg_none_of X G z1,
    z_len := PySem.W.mg_none_of X G z2,
    z_ord := PySem.W.mg_none_of X G z3,
    z_int := PySem.W.mg_none_of X G z4,
    z_tuple := PySem.W.mg_none_of X G z5,
    z_max := PySem.W.mg_none_of X G z6,
    z_enumerate := PySem.W.mg_none_of X G z7,
    z_dict := PySem.W.mg_none_of X G z8,
    z_abs := PySem.W.mg_none_of X G z9,
    z_range := PySem.W.mg_none_of X G z10,
    z_bool := PySem.W.mg_none_of X G z11,
    z_list := PySem.W.mg_none_of X G z12 }
  refine ⟨PySem.W.fnOf "law" "law" (defArgs s_law) (defBody s_law) (defScope s_law) .none kV49 dc49 pm49 an49 cd49 ct49, fun _ _ => .of_eq rfl, fun base _ _ => ?_⟩
  have d1 := ok_law_draw (P := l.prog) (w := w) (base := base) T
  have pk := ok_law_pick T d1
  have tr := all_tree (P := l.prog) (w := w) (base := base) T 3
  have ty := ok_law_types T pk tr
  have tx := all_text (P := l.prog) (w := w) (base := base) T 3
  have ln := ok_law_lines T tx (ok_law_pairs T tx)
  have wd := ok_is_word (P := l.prog) (w := w) (base := base) T
  have tk := ok_Line_take (P := l.prog) (w := w) (base := base) T
  have co := ok_Line_comes (P := l.prog) (w := w) (base := base) T
  have sk := ok_Line_skip T tk
  have tw := ok_Line_take_word T wd tk
  have tn := ok_Line_take_number T (ok_is_number T) tk
  have rt := all_rtree (P := l.prog) (w := w) (base := base) T 3
  have rts := all_rtrees (P := l.prog) (w := w) (base := base) T 3
  have k1 := ok_take_kind T sk tw rt
  have ks := ok_take_kinds T k1 sk co
  have li := ok_take_line T (ok_take_maker T tn tw) tw (ok_take_constructor T k1 sk co ks tw) (ok_take_function T k1 sk ks tn tw) tk (ok_take_clause T rt sk rts tw)
  have dr := ok_drafted T (ok_Line_finish T) li (ok_Line_init T (ok_most_open T) (ok_tokens_of T (ok_token_end T))) (ok_Draft_init T) (ok_rows_of T (ok_is_allowed T))
  have de := all_decl (P := l.prog) (w := w) (base := base) T 3
  have kd := ok_kinds T de
  have rd := ok_read T dr (ok_table T de kd) (ok_program T de kd (ok_clauses T de) (ok_constructor_words T))
  exact ok_law T (ok_law_state T) (ok_law_table T d1 pk ty) (ok_law_program T d1 ty (ok_law_clause T tr)) ln d1 pk (ok_law_spread T (ok_law_is_letter T) d1 pk) (all_same T 11) rd
theorem law_walk {l : PySem.W.OpenLaw} {q : Program} {loose : List Str} {XP : (Str → Option Value) → Heap → Prop} {YP : World → Heap → Prop} {r : DefRec} {K : Params → PySem.W.Frag}
    (h63 : l.most = some 63) (hno : r.params.defaults = []) (hK : ∀ (w : World) (h : Heap), YP w h → (K w.params).In h)
    (ok : ∀ (w : World) (mg : Str → Option Value) (fa : Addr) (h : Heap), (K w.params).In h → h.Ns mainGlobals mg → mg r.name = some (.ref fa) →
      ∃ fd : FuncData, (∀ (s : Shared) (u : Value), BindsTo s fd ⟨[u], []⟩ [("script", u)]) ∧
        ∀ base : Heap, (K w.params).In base → base.Ns mainGlobals mg → FnOk l.prog w (K w.params) mg base CX0 16 fa fd ["script"] (spLaw (K w.params))) :
    PySem.W.WalkO q loose XP YP l.row.toRowW r [] (fun f vs => PySem.call f vs) :=
  L2.walk_of (n := 63) (k := 16) (x := "script") (CX := fun _ => CX0) (sp := fun w => spLaw (K w.params)) h63 (by decide) hno ⟨rfl, by decide, by decide⟩ hK ok
    (fun _ _ a ns few _ seq => ⟨a, ns, rfl, seq, few, fun _ => rfl⟩) fun _ _ _ _ _ z => z
end Kx
open PySem PySem.W PyProof.Rows
set_option maxRecDepth 100000 in
set_option maxHeartbeats 0 in
theorem PySem.Challenge.cw_exactkinds_k06_texts_with_spaces_and_com_holds : PySem.Challenge.rw_exactkinds_k06_texts_with_spaces_and_com.Holds := by
  w_on; o_law; k_head; (case hw => w_witness2)
  k_fill
  refine Kx.law_walk (l := PySem.Challenge.rw_exactkinds_k06_texts_with_spaces_and_com) rfl rfl (fun _ _ Y => PySem.W.kIn_of Y) ?walked
  case walked =>
    intro w mg fa h inK names hmg
    refine' Kx.all_mk inK names hmg ?aC0 ?pg0 ?hd0 ?po0 ?sa0 ?mk0 ?kc0 ?nx0_0 ?nx0_1 ?nx0_2 ?aC1 ?pg1 ?hd1 ?po1 ?sa1 ?mk1 ?kc1 ?aC2 ?pg2 ?hd2 ?po2 ?sa2 ?mk2 ?kc2 ?nx2_0 ?nx2_1 ?nx2_2 ?nx2_3 ?nx2_4 ?nx2_5 ?gi0 ?gi1 ?gi2 ?gi3 ?gi4 ?a0 ?l0 ?c0 ?k0 ?a1 ?l1 ?c1 ?k1 ?a2 ?l2 ?c2 ?k2 ?a3 ?i3 ?l3 ?c3 ?k3 ?a4 ?i4 ?l4 ?c4 ?k4 ?a5 ?i5 ?l5 ?c5 ?k5 ?a6 ?i6 ?l6 ?c6 ?k6 ?a7 ?i7 ?l7 ?c7 ?k7 ?a8 ?i8 ?l8 ?c8 ?k8 ?a9 ?i9 ?l9 ?c9 ?k9 ?a10 ?i10 ?l10 ?c10 ?k10 ?a11 ?i11 ?l11 ?c11 ?k11 ?a12 ?i12 ?l12 ?c12 ?k12 ?a13 ?l13 ?c13 ?k13 ?a14 ?l14 ?c14 ?k14 ?a15 ?l15 ?c15 ?k15 ?a16 ?l16 ?c16 ?k16 ?a17 ?i17 ?l17 ?c17 ?k17 ?a18 ?l18 ?c18 ?k18 ?a19 ?i19 ?l19 ?c19 ?k19 ?a20 ?l20 ?c20 ?k20 ?a21 ?l21 ?c21 ?k21 ?a22 ?l22 ?c22 ?k22 ?a23 ?l23 ?c23 ?k23 ?a24 ?l24 ?c24 ?k24 ?a25 ?l25 ?c25 ?k25 ?a26 ?l26 ?c26 ?k26 ?a27 ?l27 ?c27 ?k27 ?a28 ?l28 ?c28 ?k28 ?a29 ?l29 ?c29 ?k29 ?a30 ?l30 ?c30 ?k30 ?a31 ?l31 ?c31 ?k31 ?a32 ?l32 ?c32 ?k32 ?a33 ?l33 ?c33 ?k33 ?a34 ?l34 ?c34 ?k34 ?a35 ?l35 ?c35 ?k35 ?a36 ?l36 ?c36 ?k36 ?a37 ?l37 ?c37 ?k37 ?a38 ?l38 ?c38 ?k38 ?a39 ?l39 ?c39 ?k39 ?a40 ?l40 ?c40 ?k40 ?a41 ?l41 ?c41 ?k41 ?a42 ?l42 ?c42 ?k42 ?a43 ?l43 ?c43 ?k43 ?a44 ?l44 ?c44 ?k44 ?a45 ?l45 ?c45 ?k45 ?a46 ?l46 ?c46 ?k46 ?a47 ?l47 ?c47 ?k47 ?a48 ?l48 ?c48 ?k48 ?a49 ?l49 ?c49 ?k49 ?z0 ?z1 ?z2 ?z3 ?z4 ?z5 ?z6 ?z7 ?z8 ?z9 ?z10 ?z11 ?z12
    (case aC0 => k_is)
    (case pg0 => k_is)
    (case hd0 => k_is)
    (case po0 => k_is)
    (case sa0 => k_is)
    (case mk0 => k_is)
    (case kc0 => k_is)
    (case nx0_0 => k_is)
    (case nx0_1 => k_is)
    (case nx0_2 => k_is)
    (case aC1 => k_is)
    (case pg1 => k_is)
    (case hd1 => k_is)
    (case po1 => k_is)
    (case sa1 => k_is)
    (case mk1 => k_is)
    (case kc1 => k_is)
    (case aC2 => k_is)
    (case pg2 => k_is)
    (case hd2 => k_is)
    (case po2 => k_is)
    (case sa2 => k_is)
    (case mk2 => k_is)
    (case kc2 => k_is)
    (case nx2_0 => k_is)
    (case nx2_1 => k_is)
    (case nx2_2 => k_is)
    (case nx2_3 => k_is)
    (case nx2_4 => k_is)
    (case nx2_5 => k_is)
    (case gi0 => k_is)
    (case gi1 => k_is)
    (case gi2 => k_is)
    (case gi3 => k_is)
    (case gi4 => k_is)
    (case a0 => k_is)
    (case l0 => k_is)
    (case c0 => k_is)
    (case k0 => k_is)
    (case a1 => k_is)
    (case l1 => k_is)
    (case c1 => k_is)
    (case k1 => k_is)
    (case a2 => k_is)
    (case l2 => k_is)
    (case c2 => k_is)
    (case k2 => k_is)
    (case a3 => k_is)
    (case i3 => k_is)
    (case l3 => k_is)
    (case c3 => k_is)
    (case k3 => k_is)
    (case a4 => k_is)
    (case i4 => k_is)
    (case l4 => k_is)
    (case c4 => k_is)
    (case k4 => k_is)
    (case a5 => k_is)
    (case i5 => k_is)
    (case l5 => k_is)
    (case c5 => k_is)
    (case k5 => k_is)
    (case a6 => k_is)
    (case i6 => k_is)
    (case l6 => k_is)
    (case c6 => k_is)
    (case k6 => k_is)
    (case a7 => k_is)
    (case i7 => k_is)
    (case l7 => k_is)
    (case c7 => k_is)
    (case k7 => k_is)
    (case a8 => k_is)
    (case i8 => k_is)
    (case l8 => k_is)
    (case c8 => k_is)
    (case k8 => k_is)
    (case a9 => k_is)
    (case i9 => k_is)
    (case l9 => k_is)
    (case c9 => k_is)
    (case k9 => k_is)
    (case a10 => k_is)
    (case i10 => k_is)
    (case l10 => k_is)
    (case c10 => k_is)
    (case k10 => k_is)
    (case a11 => k_is)
    (case i11 => k_is)
    (case l11 => k_is)
    (case c11 => k_is)
    (case k11 => k_is)
    (case a12 => k_is)
    (case i12 => k_is)
    (case l12 => k_is)
    (case c12 => k_is)
    (case k12 => k_is)
    (case a13 => k_is)
    (case l13 => k_is)
    (case c13 => k_is)
    (case k13 => k_is)
    (case a14 => k_is)
    (case l14 => k_is)
    (case c14 => k_is)
    (case k14 => k_is)
    (case a15 => k_is)
    (case l15 => k_is)
    (case c15 => k_is)
    (case k15 => k_is)
    (case a16 => k_is)
    (case l16 => k_is)
    (case c16 => k_is)
    (case k16 => k_is)
    (case a17 => k_is)
    (case i17 => k_is)
    (case l17 => k_is)
    (case c17 => k_is)
    (case k17 => k_is)
    (case a18 => k_is)
    (case l18 => k_is)
    (case c18 => k_is)
    (case k18 => k_is)
    (case a19 => k_is)
    (case i19 => k_is)
    (case l19 => k_is)
    (case c19 => k_is)
    (case k19 => k_is)
    (case a20 => k_is)
    (case l20 => k_is)
    (case c20 => k_is)
    (case k20 => k_is)
    (case a21 => k_is)
    (case l21 => k_is)
    (case c21 => k_is)
    (case k21 => k_is)
    (case a22 => k_is)
    (case l22 => k_is)
    (case c22 => k_is)
    (case k22 => k_is)
    (case a23 => k_is)
    (case l23 => k_is)
    (case c23 => k_is)
    (case k23 => k_is)
    (case a24 => k_is)
    (case l24 => k_is)
    (case c24 => k_is)
    (case k24 => k_is)
    (case a25 => k_is)
    (case l25 => k_is)
    (case c25 => k_is)
    (case k25 => k_is)
    (case a26 => k_is)
    (case l26 => k_is)
    (case c26 => k_is)
    (case k26 => k_is)
    (case a27 => k_is)
    (case l27 => k_is)
    (case c27 => k_is)
    (case k27 => k_is)
    (case a28 => k_is)
    (case l28 => k_is)
    (case c28 => k_is)
    (case k28 => k_is)
    (case a29 => k_is)
    (case l29 => k_is)
    (case c29 => k_is)
    (case k29 => k_is)
    (case a30 => k_is)
    (case l30 => k_is)
    (case c30 => k_is)
    (case k30 => k_is)
    (case a31 => k_is)
    (case l31 => k_is)
    (case c31 => k_is)
    (case k31 => k_is)
    (case a32 => k_is)
    (case l32 => k_is)
    (case c32 => k_is)
    (case k32 => k_is)
    (case a33 => k_is)
    (case l33 => k_is)
    (case c33 => k_is)
    (case k33 => k_is)
    (case a34 => k_is)
    (case l34 => k_is)
    (case c34 => k_is)
    (case k34 => k_is)
    (case a35 => k_is)
    (case l35 => k_is)
    (case c35 => k_is)
    (case k35 => k_is)
    (case a36 => k_is)
    (case l36 => k_is)
    (case c36 => k_is)
    (case k36 => k_is)
    (case a37 => k_is)
    (case l37 => k_is)
    (case c37 => k_is)
    (case k37 => k_is)
    (case a38 => k_is)
    (case l38 => k_is)
    (case c38 => k_is)
    (case k38 => k_is)
    (case a39 => k_is)
    (case l39 => k_is)
    (case c39 => k_is)
    (case k39 => k_is)
    (case a40 => k_is)
    (case l40 => k_is)
    (case c40 => k_is)
    (case k40 => k_is)
    (case a41 => k_is)
    (case l41 => k_is)
    (case c41 => k_is)
    (case k41 => k_is)
    (case a42 => k_is)
    (case l42 => k_is)
    (case c42 => k_is)
    (case k42 => k_is)
    (case a43 => k_is)
    (case l43 => k_is)
    (case c43 => k_is)
    (case k43 => k_is)
    (case a44 => k_is)
    (case l44 => k_is)
    (case c44 => k_is)
    (case k44 => k_is)
    (case a45 => k_is)
    (case l45 => k_is)
    (case c45 => k_is)
    (case k45 => k_is)
    (case a46 => k_is)
    (case l46 => k_is)
    (case c46 => k_is)
    (case k46 => k_is)
    (case a47 => k_is)
    (case l47 => k_is)
    (case c47 => k_is)
    (case k47 => k_is)
    (case a48 => k_is)
    (case l48 => k_is)
    (case c48 => k_is)
    (case k48 => k_is)
    (case a49 => k_is)
    (case l49 => k_is)
    (case c49 => k_is)
    (case k49 => k_is)
    (case z0 => k_is)
    (case z1 => k_is)
    (case z2 => k_is)
    (case z3 => k_is)
    (case z4 => k_is)
    (case z5 => k_is)
    (case z6 => k_is)
    (case z7 => k_is)
    (case z8 => k_is)
    (case z9 => k_is)
    (case z10 => k_is)
    (case z11 => k_is)
    (case z12 => k_is)

