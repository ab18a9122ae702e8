import PyProof.Rows.All
import Wide.All
import OpenK.AllK
import Wide.FinOn
import HandS.ForMost
import HandS.IsInst
import HandS.Conv
import HandS.TupAny
import HandS.Evl
import HandS.SetKeys
import HandS.Rev
import HandS.ForDict
import HandS.New
import HandS.Dict
import HandS.DictComp
import HandS.Zip
import HandS.More
import HandS.Walk
import HandS.Set
import HandS.SetTxt0
import HandS.SetFor
import HandS.Strs
import HandS.Star
import HandS.Text
import HandS.StrMore
import HandS.ExcOwn
import HandS.Exc
import HandS.ExcIs
import HandS.Small
import PyProof.EqAt
import PyProof.EqKinds
import HandS.Style
import HandS.Words
import KE.GoesMore
import HandS.WordsExc
import KE.KDictPairs
import PySem.Challenge.RW_exactkinds_k09_whole_tables_that_are_non
set_option Elab.async false
set_option linter.all false
set_option maxRecDepth 100000
set_option maxHeartbeats 4000000
namespace Kx
open PySem PySem.Spec PyProof.Rows L2
def top (i : Nat) : Stmt := PySem.Challenge.pw_exactkinds_k09_whole_tables_that_are_non.main.body.getD i (.Pass ⟨0, 0, 0, 0⟩)
abbrev s_Kept_init : Stmt := inClass (top 5) 0
abbrev s_Kept_pair_of : Stmt := inClass (top 5) 1
abbrev s_Kept_keep : Stmt := inClass (top 5) 2
abbrev s_is_term : Stmt := top 7
abbrev s_has_form : Stmt := top 8
abbrev s_names_of : Stmt := top 9
abbrev s_is_word : Stmt := top 18
abbrev s_check_table : Stmt := top 21
abbrev s_is_table : Stmt := top 22
abbrev s_is_row : Stmt := top 23
abbrev s_is_integer : Stmt := top 24
abbrev s_are_makers : Stmt := top 25
abbrev s_is_maker : Stmt := top 26
abbrev s_are_families : Stmt := top 27
abbrev s_are_constructors : Stmt := top 28
abbrev s_is_constructor : Stmt := top 29
abbrev s_is_kind : Stmt := top 30
abbrev s_is_deeper : Stmt := top 31
abbrev s_is_flat : Stmt := top 32
abbrev s_are_names_told : Stmt := top 33
abbrev s_names_in : Stmt := top 34
abbrev s_words_of : Stmt := top 35
abbrev s_law_state : Stmt := top 37
abbrev s_law_draw : Stmt := top 38
abbrev s_law_pick : Stmt := top 39
abbrev s_law_shape : Stmt := top 40
abbrev s_law_table : Stmt := top 41
abbrev s_law_is_word : Stmt := top 42
abbrev s_law_row : Stmt := top 43
abbrev s_law_is_makers : Stmt := top 44
abbrev s_law_deep : Stmt := top 45
abbrev s_law_names : Stmt := top 46
abbrev s_law_is_pair : Stmt := top 47
abbrev s_law_is_constructor : Stmt := top 48
abbrev s_law_is_table : Stmt := top 49
abbrev s_law_spoilt : Stmt := top 50
abbrev s_law_odd : Stmt := top 51
abbrev s_law_large : Stmt := top 52
abbrev s_law_same : Stmt := top 53
abbrev s_law_told : Stmt := top 54
abbrev s_law : Stmt := top 55
theorem sc_Kept_init : FnScope ["self"] ["self"] (defScope s_Kept_init) := ⟨rfl, rfl, rfl, by decide +kernel, rfl, by decide +kernel, by decide +kernel⟩
theorem sc_Kept_pair_of : FnScope ["self", "tree", "pair"] ["self", "tree"] (defScope s_Kept_pair_of) := ⟨rfl, rfl, rfl, by decide +kernel, rfl, by decide +kernel, by decide +kernel⟩
theorem sc_Kept_keep : FnScope ["self", "tree", "result", "row"] ["self", "tree", "result"] (defScope s_Kept_keep) := ⟨rfl, rfl, rfl, by decide +kernel, rfl, by decide +kernel, by decide +kernel⟩
theorem sc_is_term : FnScope ["makers", "value"] ["makers", "value"] (defScope s_is_term) := ⟨rfl, rfl, rfl, by decide +kernel, rfl, by decide +kernel, by decide +kernel⟩
theorem sc_has_form : FnScope ["parts_by_word", "value", "may_have_names", "kept", "part"] ["parts_by_word", "value", "may_have_names", "kept"] (defScope s_has_form) := ⟨rfl, rfl, rfl, by decide +kernel, rfl, by decide +kernel, by decide +kernel⟩
theorem sc_names_of : FnScope ["term", "found", "todo", "here"] ["term"] (defScope s_names_of) := ⟨rfl, rfl, rfl, by decide +kernel, rfl, by decide +kernel, by decide +kernel⟩
theorem sc_is_word : FnScope ["value"] ["value"] (defScope s_is_word) := ⟨rfl, rfl, rfl, by decide +kernel, rfl, by decide +kernel, by decide +kernel⟩
theorem sc_check_table : FnScope ["value"] ["value"] (defScope s_check_table) := ⟨rfl, rfl, rfl, by decide +kernel, rfl, by decide +kernel, by decide +kernel⟩
theorem sc_is_table : FnScope ["value", "words"] ["value"] (defScope s_is_table) := ⟨rfl, rfl, rfl, by decide +kernel, rfl, by decide +kernel, by decide +kernel⟩
theorem sc_is_row : FnScope ["value", "many"] ["value", "many"] (defScope s_is_row) := ⟨rfl, rfl, rfl, by decide +kernel, rfl, by decide +kernel, by decide +kernel⟩
theorem sc_is_integer : FnScope ["value"] ["value"] (defScope s_is_integer) := ⟨rfl, rfl, rfl, by decide +kernel, rfl, by decide +kernel, by decide +kernel⟩
theorem sc_are_makers : FnScope ["value", "maker", "_", "parts"] ["value"] (defScope s_are_makers) := ⟨rfl, rfl, rfl, by decide +kernel, rfl, by decide +kernel, by decide +kernel⟩
theorem sc_is_maker : FnScope ["value"] ["value"] (defScope s_is_maker) := ⟨rfl, rfl, rfl, by decide +kernel, rfl, by decide +kernel, by decide +kernel⟩
theorem sc_are_families : FnScope ["value", "word"] ["value"] (defScope s_are_families) := ⟨rfl, rfl, rfl, by decide +kernel, rfl, by decide +kernel, by decide +kernel⟩
theorem sc_are_constructors : FnScope ["table", "value", "constructor"] ["table"] (defScope s_are_constructors) := ⟨rfl, rfl, rfl, by decide +kernel, rfl, by decide +kernel, by decide +kernel⟩
theorem sc_is_constructor : FnScope ["table", "value", "_", "parts", "family", "index", "kind"] ["table", "value"] (defScope s_is_constructor) := ⟨rfl, rfl, rfl, by decide +kernel, rfl, by decide +kernel, by decide +kernel⟩
theorem sc_is_kind : FnScope ["table", "value", "name"] ["table", "value"] (defScope s_is_kind) := ⟨rfl, rfl, rfl, by decide +kernel, rfl, by decide +kernel, by decide +kernel⟩
theorem sc_is_deeper : FnScope ["term", "most", "part"] ["term", "most"] (defScope s_is_deeper) := ⟨rfl, rfl, rfl, by decide +kernel, rfl, by decide +kernel, by decide +kernel⟩
theorem sc_is_flat : FnScope ["index", "part"] ["index"] (defScope s_is_flat) := ⟨rfl, rfl, rfl, by decide +kernel, rfl, by decide +kernel, by decide +kernel⟩
theorem sc_are_names_told : FnScope ["parts", "index", "told", "name"] ["parts", "index"] (defScope s_are_names_told) := ⟨rfl, rfl, rfl, by decide +kernel, rfl, by decide +kernel, by decide +kernel⟩
theorem sc_names_in : FnScope ["kinds", "found", "_", "term", "name"] ["kinds"] (defScope s_names_in) := ⟨rfl, rfl, rfl, by decide +kernel, rfl, by decide +kernel, by decide +kernel⟩
theorem sc_words_of : FnScope ["table", "makers", "constructors", "maker", "constructor"] ["table"] (defScope s_words_of) := ⟨rfl, rfl, rfl, by decide +kernel, rfl, by decide +kernel, by decide +kernel⟩
theorem sc_law_state : FnScope ["script", "seed", "cell"] ["script"] (defScope s_law_state) := ⟨rfl, rfl, rfl, by decide +kernel, rfl, by decide +kernel, by decide +kernel⟩
theorem sc_law_draw : FnScope ["state", "many", "cells", "value", "mixed"] ["state", "many"] (defScope s_law_draw) := ⟨rfl, rfl, rfl, by decide +kernel, rfl, by decide +kernel, by decide +kernel⟩
theorem sc_law_pick : FnScope ["state", "row"] ["state", "row"] (defScope s_law_pick) := ⟨rfl, rfl, rfl, by decide +kernel, rfl, by decide +kernel, by decide +kernel⟩
theorem sc_law_shape : FnScope ["kind", "own", "other", "third", "zero", "next_n", "grown", "pair"] ["kind", "own", "other", "third"] (defScope s_law_shape) := ⟨rfl, rfl, rfl, by decide +kernel, rfl, by decide +kernel, by decide +kernel⟩
theorem sc_law_table : FnScope ["state", "makers", "families", "constructors", "own", "kind", "parts", "index"] ["state"] (defScope s_law_table) := ⟨rfl, rfl, rfl, by decide +kernel, rfl, by decide +kernel, by decide +kernel⟩
theorem sc_law_is_word : FnScope ["value", "letters", "rest", "char"] ["value"] (defScope s_law_is_word) := ⟨rfl, rfl, rfl, by decide +kernel, rfl, by decide +kernel, by decide +kernel⟩
theorem sc_law_row : FnScope ["value", "least", "most"] ["value", "least", "most"] (defScope s_law_row) := ⟨rfl, rfl, rfl, by decide +kernel, rfl, by decide +kernel, by decide +kernel⟩
theorem sc_law_is_makers : FnScope ["value", "row"] ["value"] (defScope s_law_is_makers) := ⟨rfl, rfl, rfl, by decide +kernel, rfl, by decide +kernel, by decide +kernel⟩
theorem sc_law_deep : FnScope ["makers", "value", "row", "part"] ["makers", "value"] (defScope s_law_deep) := ⟨rfl, rfl, rfl, by decide +kernel, rfl, by decide +kernel, by decide +kernel⟩
theorem sc_law_names : FnScope ["term", "names", "part"] ["term"] (defScope s_law_names) := ⟨rfl, rfl, rfl, by decide +kernel, rfl, by decide +kernel, by decide +kernel⟩
theorem sc_law_is_pair : FnScope ["makers", "families", "value"] ["makers", "families", "value"] (defScope s_law_is_pair) := ⟨rfl, rfl, rfl, by decide +kernel, rfl, by decide +kernel, by decide +kernel⟩
theorem sc_law_is_constructor : FnScope ["makers", "families", "value", "pair", "told", "name", "made", "part"] ["makers", "families", "value"] (defScope s_law_is_constructor) := ⟨rfl, rfl, rfl, by decide +kernel, rfl, by decide +kernel, by decide +kernel⟩
theorem sc_law_is_table : FnScope ["value", "words", "word", "row"] ["value"] (defScope s_law_is_table) := ⟨rfl, rfl, rfl, by decide +kernel, rfl, by decide +kernel, by decide +kernel⟩
theorem sc_law_spoilt : FnScope ["state", "value", "odd", "at", "kind"] ["state", "value", "odd"] (defScope s_law_spoilt) := ⟨rfl, rfl, rfl, by decide +kernel, rfl, by decide +kernel, by decide +kernel⟩
theorem sc_law_odd : FnScope ["state", "table", "odd", "more"] ["state", "table"] (defScope s_law_odd) := ⟨rfl, rfl, rfl, by decide +kernel, rfl, by decide +kernel, by decide +kernel⟩
theorem sc_law_large : FnScope ["state", "table", "kind", "many", "term", "k", "parts", "more"] ["state", "table", "kind"] (defScope s_law_large) := ⟨rfl, rfl, rfl, by decide +kernel, rfl, by decide +kernel, by decide +kernel⟩
theorem sc_law_same : FnScope ["flag", "due"] ["flag", "due"] (defScope s_law_same) := ⟨rfl, rfl, rfl, by decide +kernel, rfl, by decide +kernel, by decide +kernel⟩
theorem sc_law_told : FnScope ["value", "e"] ["value"] (defScope s_law_told) := ⟨rfl, rfl, rfl, by decide +kernel, rfl, by decide +kernel, by decide +kernel⟩
theorem sc_law : FnScope ["script", "state", "table", "value", "turn", "asked", "due", "word", "kind"] ["script"] (defScope s_law) := ⟨rfl, rfl, rfl, by decide +kernel, rfl, by decide +kernel, by decide +kernel⟩
structure Txt (K : PySem.W.Frag) (mg : Str → Option Value) where
  c_Kept : Addr
  cl_Kept : Cls K c_Kept
  mg_Kept : mg "Kept" = some (.ref c_Kept)
  no_Kept_rows : NoAttr K c_Kept "rows"
  t_MOST_KEPT : Tok
  g_MOST_KEPT : mg "MOST_KEPT" = some (.int 32 t_MOST_KEPT)
  t_MOST_NAME : Tok
  g_MOST_NAME : mg "MOST_NAME" = some (.int 12 t_MOST_NAME)
  t_MOST_MAKERS : Tok
  g_MOST_MAKERS : mg "MOST_MAKERS" = some (.int 5 t_MOST_MAKERS)
  t_MOST_FAMILIES : Tok
  g_MOST_FAMILIES : mg "MOST_FAMILIES" = some (.int 4 t_MOST_FAMILIES)
  t_MOST_CONSTRUCTORS : Tok
  g_MOST_CONSTRUCTORS : mg "MOST_CONSTRUCTORS" = some (.int 16 t_MOST_CONSTRUCTORS)
  t_MOST_PARTS : Tok
  g_MOST_PARTS : mg "MOST_PARTS" = some (.int 3 t_MOST_PARTS)
  t_MOST_NAMES : Tok
  g_MOST_NAMES : mg "MOST_NAMES" = some (.int 4 t_MOST_NAMES)
  t_MOST_DEEP : Tok
  g_MOST_DEEP : mg "MOST_DEEP" = some (.int 4 t_MOST_DEEP)
  t_MOST_MAKER_PARTS : Tok
  g_MOST_MAKER_PARTS : mg "MOST_MAKER_PARTS" = some (.int 2 t_MOST_MAKER_PARTS)
  a_Kept_init : Addr
  d_Kept_init : FuncData
  F_Kept_init : Fun K "__init__" "Kept.__init__" s_Kept_init a_Kept_init d_Kept_init
  b_Kept_init : Binds K d_Kept_init ["self"] []
  me_Kept_init : Meth K c_Kept "__init__" a_Kept_init
  a_Kept_pair_of : Addr
  d_Kept_pair_of : FuncData
  F_Kept_pair_of : Fun K "pair_of" "Kept.pair_of" s_Kept_pair_of a_Kept_pair_of d_Kept_pair_of
  b_Kept_pair_of : Binds K d_Kept_pair_of ["self", "tree"] []
  me_Kept_pair_of : Meth K c_Kept "pair_of" a_Kept_pair_of
  a_Kept_keep : Addr
  d_Kept_keep : FuncData
  F_Kept_keep : Fun K "keep" "Kept.keep" s_Kept_keep a_Kept_keep d_Kept_keep
  b_Kept_keep : Binds K d_Kept_keep ["self", "tree", "result"] []
  me_Kept_keep : Meth K c_Kept "keep" a_Kept_keep
  a_is_term : Addr
  d_is_term : FuncData
  F_is_term : Fun K "is_term" "is_term" s_is_term a_is_term d_is_term
  b_is_term : Binds K d_is_term ["makers", "value"] []
  m_is_term : mg "is_term" = some (.ref a_is_term)
  a_has_form : Addr
  d_has_form : FuncData
  F_has_form : Fun K "_has_form" "_has_form" s_has_form a_has_form d_has_form
  b_has_form : Binds K d_has_form ["parts_by_word", "value", "may_have_names", "kept"] []
  m_has_form : mg "_has_form" = some (.ref a_has_form)
  a_names_of : Addr
  d_names_of : FuncData
  F_names_of : Fun K "names_of" "names_of" s_names_of a_names_of d_names_of
  b_names_of : Binds K d_names_of ["term"] []
  m_names_of : mg "names_of" = some (.ref a_names_of)
  a_is_word : Addr
  d_is_word : FuncData
  F_is_word : Fun K "is_word" "is_word" s_is_word a_is_word d_is_word
  b_is_word : Binds K d_is_word ["value"] []
  m_is_word : mg "is_word" = some (.ref a_is_word)
  a_check_table : Addr
  d_check_table : FuncData
  F_check_table : Fun K "check_table" "check_table" s_check_table a_check_table d_check_table
  b_check_table : Binds K d_check_table ["value"] []
  m_check_table : mg "check_table" = some (.ref a_check_table)
  a_is_table : Addr
  d_is_table : FuncData
  F_is_table : Fun K "is_table" "is_table" s_is_table a_is_table d_is_table
  b_is_table : Binds K d_is_table ["value"] []
  m_is_table : mg "is_table" = some (.ref a_is_table)
  a_is_row : Addr
  d_is_row : FuncData
  F_is_row : Fun K "is_row" "is_row" s_is_row a_is_row d_is_row
  b_is_row : Binds K d_is_row ["value", "many"] []
  m_is_row : mg "is_row" = some (.ref a_is_row)
  a_is_integer : Addr
  d_is_integer : FuncData
  F_is_integer : Fun K "is_integer" "is_integer" s_is_integer a_is_integer d_is_integer
  b_is_integer : Binds K d_is_integer ["value"] []
  m_is_integer : mg "is_integer" = some (.ref a_is_integer)
  a_are_makers : Addr
  d_are_makers : FuncData
  F_are_makers : Fun K "_are_makers" "_are_makers" s_are_makers a_are_makers d_are_makers
  b_are_makers : Binds K d_are_makers ["value"] []
  m_are_makers : mg "_are_makers" = some (.ref a_are_makers)
  a_is_maker : Addr
  d_is_maker : FuncData
  F_is_maker : Fun K "_is_maker" "_is_maker" s_is_maker a_is_maker d_is_maker
  b_is_maker : Binds K d_is_maker ["value"] []
  m_is_maker : mg "_is_maker" = some (.ref a_is_maker)
  a_are_families : Addr
  d_are_families : FuncData
  F_are_families : Fun K "_are_families" "_are_families" s_are_families a_are_families d_are_families
  b_are_families : Binds K d_are_families ["value"] []
  m_are_families : mg "_are_families" = some (.ref a_are_families)
  a_are_constructors : Addr
  d_are_constructors : FuncData
  F_are_constructors : Fun K "_are_constructors" "_are_constructors" s_are_constructors a_are_constructors d_are_constructors
  b_are_constructors : Binds K d_are_constructors ["table"] []
  m_are_constructors : mg "_are_constructors" = some (.ref a_are_constructors)
  a_is_constructor : Addr
  d_is_constructor : FuncData
  F_is_constructor : Fun K "_is_constructor" "_is_constructor" s_is_constructor a_is_constructor d_is_constructor
  b_is_constructor : Binds K d_is_constructor ["table", "value"] []
  m_is_constructor : mg "_is_constructor" = some (.ref a_is_constructor)
  a_is_kind : Addr
  d_is_kind : FuncData
  F_is_kind : Fun K "is_kind" "is_kind" s_is_kind a_is_kind d_is_kind
  b_is_kind : Binds K d_is_kind ["table", "value"] []
  m_is_kind : mg "is_kind" = some (.ref a_is_kind)
  a_is_deeper : Addr
  d_is_deeper : FuncData
  F_is_deeper : Fun K "_is_deeper" "_is_deeper" s_is_deeper a_is_deeper d_is_deeper
  b_is_deeper : Binds K d_is_deeper ["term", "most"] []
  m_is_deeper : mg "_is_deeper" = some (.ref a_is_deeper)
  a_is_flat : Addr
  d_is_flat : FuncData
  F_is_flat : Fun K "_is_flat" "_is_flat" s_is_flat a_is_flat d_is_flat
  b_is_flat : Binds K d_is_flat ["index"] []
  m_is_flat : mg "_is_flat" = some (.ref a_is_flat)
  a_are_names_told : Addr
  d_are_names_told : FuncData
  F_are_names_told : Fun K "_are_names_told" "_are_names_told" s_are_names_told a_are_names_told d_are_names_told
  b_are_names_told : Binds K d_are_names_told ["parts", "index"] []
  m_are_names_told : mg "_are_names_told" = some (.ref a_are_names_told)
  a_names_in : Addr
  d_names_in : FuncData
  F_names_in : Fun K "_names_in" "_names_in" s_names_in a_names_in d_names_in
  b_names_in : Binds K d_names_in ["kinds"] []
  m_names_in : mg "_names_in" = some (.ref a_names_in)
  a_words_of : Addr
  d_words_of : FuncData
  F_words_of : Fun K "words_of" "words_of" s_words_of a_words_of d_words_of
  b_words_of : Binds K d_words_of ["table"] []
  m_words_of : mg "words_of" = some (.ref a_words_of)
  a_law_state : Addr
  d_law_state : FuncData
  F_law_state : Fun K "_law_state" "_law_state" s_law_state a_law_state d_law_state
  b_law_state : Binds K d_law_state ["script"] []
  m_law_state : mg "_law_state" = some (.ref a_law_state)
  a_law_draw : Addr
  d_law_draw : FuncData
  F_law_draw : Fun K "_law_draw" "_law_draw" s_law_draw a_law_draw d_law_draw
  b_law_draw : Binds K d_law_draw ["state", "many"] []
  m_law_draw : mg "_law_draw" = some (.ref a_law_draw)
  a_law_pick : Addr
  d_law_pick : FuncData
  F_law_pick : Fun K "_law_pick" "_law_pick" s_law_pick a_law_pick d_law_pick
  b_law_pick : Binds K d_law_pick ["state", "row"] []
  m_law_pick : mg "_law_pick" = some (.ref a_law_pick)
  a_law_shape : Addr
  d_law_shape : FuncData
  F_law_shape : Fun K "_law_shape" "_law_shape" s_law_shape a_law_shape d_law_shape
  b_law_shape : Binds K d_law_shape ["kind", "own", "other", "third"] []
  m_law_shape : mg "_law_shape" = some (.ref a_law_shape)
  a_law_table : Addr
  d_law_table : FuncData
  F_law_table : Fun K "_law_table" "_law_table" s_law_table a_law_table d_law_table
  b_law_table : Binds K d_law_table ["state"] []
  m_law_table : mg "_law_table" = some (.ref a_law_table)
  a_law_is_word : Addr
  d_law_is_word : FuncData
  F_law_is_word : Fun K "_law_is_word" "_law_is_word" s_law_is_word a_law_is_word d_law_is_word
  b_law_is_word : Binds K d_law_is_word ["value"] []
  m_law_is_word : mg "_law_is_word" = some (.ref a_law_is_word)
  a_law_row : Addr
  d_law_row : FuncData
  F_law_row : Fun K "_law_row" "_law_row" s_law_row a_law_row d_law_row
  b_law_row : Binds K d_law_row ["value", "least", "most"] []
  m_law_row : mg "_law_row" = some (.ref a_law_row)
  a_law_is_makers : Addr
  d_law_is_makers : FuncData
  F_law_is_makers : Fun K "_law_is_makers" "_law_is_makers" s_law_is_makers a_law_is_makers d_law_is_makers
  b_law_is_makers : Binds K d_law_is_makers ["value"] []
  m_law_is_makers : mg "_law_is_makers" = some (.ref a_law_is_makers)
  a_law_deep : Addr
  d_law_deep : FuncData
  F_law_deep : Fun K "_law_deep" "_law_deep" s_law_deep a_law_deep d_law_deep
  b_law_deep : Binds K d_law_deep ["makers", "value"] []
  m_law_deep : mg "_law_deep" = some (.ref a_law_deep)
  a_law_names : Addr
  d_law_names : FuncData
  F_law_names : Fun K "_law_names" "_law_names" s_law_names a_law_names d_law_names
  b_law_names : Binds K d_law_names ["term"] []
  m_law_names : mg "_law_names" = some (.ref a_law_names)
  a_law_is_pair : Addr
  d_law_is_pair : FuncData
  F_law_is_pair : Fun K "_law_is_pair" "_law_is_pair" s_law_is_pair a_law_is_pair d_law_is_pair
  b_law_is_pair : Binds K d_law_is_pair ["makers", "families", "value"] []
  m_law_is_pair : mg "_law_is_pair" = some (.ref a_law_is_pair)
  a_law_is_constructor : Addr
  d_law_is_constructor : FuncData
  F_law_is_constructor : Fun K "_law_is_constructor" "_law_is_constructor" s_law_is_constructor a_law_is_constructor d_law_is_constructor
  b_law_is_constructor : Binds K d_law_is_constructor ["makers", "families", "value"] []
  m_law_is_constructor : mg "_law_is_constructor" = some (.ref a_law_is_constructor)
  a_law_is_table : Addr
  d_law_is_table : FuncData
  F_law_is_table : Fun K "_law_is_table" "_law_is_table" s_law_is_table a_law_is_table d_law_is_table
  b_law_is_table : Binds K d_law_is_table ["value"] []
  m_law_is_table : mg "_law_is_table" = some (.ref a_law_is_table)
  a_law_spoilt : Addr
  d_law_spoilt : FuncData
  F_law_spoilt : Fun K "_law_spoilt" "_law_spoilt" s_law_spoilt a_law_spoilt d_law_spoilt
  b_law_spoilt : Binds K d_law_spoilt ["state", "value", "odd"] []
  m_law_spoilt : mg "_law_spoilt" = some (.ref a_law_spoilt)
  a_law_odd : Addr
  d_law_odd : FuncData
  F_law_odd : Fun K "_law_odd" "_law_odd" s_law_odd a_law_odd d_law_odd
  b_law_odd : Binds K d_law_odd ["state", "table"] []
  m_law_odd : mg "_law_odd" = some (.ref a_law_odd)
  a_law_large : Addr
  d_law_large : FuncData
  F_law_large : Fun K "_law_large" "_law_large" s_law_large a_law_large d_law_large
  b_law_large : Binds K d_law_large ["state", "table", "kind"] []
  m_law_large : mg "_law_large" = some (.ref a_law_large)
  a_law_same : Addr
  d_law_same : FuncData
  F_law_same : Fun K "_law_same" "_law_same" s_law_same a_law_same d_law_same
  b_law_same : Binds K d_law_same ["flag", "due"] []
  m_law_same : mg "_law_same" = some (.ref a_law_same)
  a_law_told : Addr
  d_law_told : FuncData
  F_law_told : Fun K "_law_told" "_law_told" s_law_told a_law_told d_law_told
  b_law_told : Binds K d_law_told ["value"] []
  m_law_told : mg "_law_told" = some (.ref a_law_told)
  a_law : Addr
  d_law : FuncData
  F_law : Fun K "law" "law" s_law a_law d_law
  b_law : Binds K d_law ["script"] []
  m_law : mg "law" = some (.ref a_law)
  mk_Kept : Mk K c_Kept a_Kept_init
  c_BadTable : Addr
  g_BadTable : mg "BadTable" = some (.ref c_BadTable)
  x_BadTable : PySem.W.excIn K c_BadTable [.type "ValueError", .type "Exception", .type "BaseException", .type "object"] "ValueError.__new__" = true
  kp_BadTable : PySem.W.keepIn K (.ref c_BadTable) = true
  b_BadTable : PySem.W.subIn K (.ref c_BadTable) (.type "BaseException") = some true
  t_BadTable : PySem.W.typeIn K (.ref c_BadTable) = some (.type "type")
  i_BadTable : PySem.W.isClsIn K c_BadTable = true
  ec_BadTable : ExcC K c_BadTable
  c_KindsError : Addr
  g_KindsError : mg "KindsError" = some (.ref c_KindsError)
  x_KindsError : PySem.W.excIn K c_KindsError [.type "ValueError", .type "Exception", .type "BaseException", .type "object"] "ValueError.__new__" = true
  kp_KindsError : PySem.W.keepIn K (.ref c_KindsError) = true
  b_KindsError : PySem.W.subIn K (.ref c_KindsError) (.type "BaseException") = some true
  t_KindsError : PySem.W.typeIn K (.ref c_KindsError) = some (.type "type")
  i_KindsError : PySem.W.isClsIn K c_KindsError = true
  ec_KindsError : ExcC K c_KindsError
  su_BadTable_BadTable : PySem.W.subIn K (.ref c_BadTable) (.ref c_BadTable) = some true
  su_BadTable_KindsError : PySem.W.subIn K (.ref c_BadTable) (.ref c_KindsError) = some true
  z_reversed : mg "reversed" = none
  z_dict : mg "dict" = none
  z_isinstance : mg "isinstance" = none
  z_str : mg "str" = none
  z_tuple : mg "tuple" = none
  z_len : mg "len" = none
  z_set : mg "set" = none
  z_int : mg "int" = none
  z_bool : mg "bool" = none
  z_list : mg "list" = none
  z_abs : mg "abs" = none
  z_max : mg "max" = none
  z_range : mg "range" = none
end Kx
set_option maxHeartbeats 2000000
/-! An own exception without arguments. -/
namespace KEo
open PySem PySem.Spec PyProof.Rows L2
theorem pmk_own0 {X : Cx} {C : Addr} {bmB : List Value} {B newId initId : String} {x : Str} {p pos : Pos} (F : ExcBaseFacts B newId initId bmB) (q : PySem.W.excIn X.K C bmB newId = true) (gC : X.mg x = some (.ref C)) (kC : PySem.W.keepIn X.K (.ref C) = true) (r : Raises X (.ref C)) (hg : Gl X x) (hd : (x == ("__debug__" : Str)) = false := by decide) :
    PMk X (.Call (.Name x p) [] [] pos) (fun _ H Q => Q (.ref C) none H) := by
  intro pins s σ H Q I h
  refine wpAny_Call_Name_kw (ld_glob I hg gC ?_ hd)
  refine PySem.W.callWith_K0 I.kIn kC ?_
  obtain ⟨bm, N, nm, qn, bs, hdct, sn, sub, ab, col, dd, k0, k1, k2, k3, k5, mN, e1, e2, e3, e4⟩ := exc_obj I.kIn q
  have bare := I.bare
  obtain ⟨hp, g, d, t, os⟩ := s
  refine wpAny_call_exc_subT F e4 e1 e2 e3 (fun h' e made => ?_) (by decide)
  obtain ⟨tt, h1, _, _⟩ := made.there
  exact ⟨e, _, _, ⟨hp, g, d, t, os⟩, H, .ref C, none, rfl, I, made.keeps, made.new, h1, ⟨rfl, rfl⟩, rfl, rfl, HOk.gone I.hok made.new, rfl, bare, r, h⟩
end KEo
set_option maxHeartbeats 2000000
/-! Rules of our own over the layer: see the remarks. -/
namespace Kx
open PySem PySem.Spec PyProof.Rows L2
/-! ### rules with the written part named (for the blocks of comprehensions) -/
section
variable {X : Cx} {K : PySem.W.Frag}
theorem inSeqK (h : X.K = K := by rfl) : OpR X (compareOp .In) (rIn K false) := by subst h; exact op_in_seq
theorem notInSeqK (h : X.K = K := by rfl) : OpR X (compareOp .NotIn) (rIn K true) := by subst h; exact op_notIn_seq
theorem ixLK (h : X.K = K := by rfl) : IxR X (rIxL K) := by subst h; exact ix_list
theorem ixTK (h : X.K = K := by rfl) : IxR X (rIxT K) := by subst h; exact ix_tup
end
/-! ### l.extend(t), t a tuple -/
def rExtT (K : PySem.W.Frag) : V → List V → Hp → VK → Prop := fun x vs H Q => ∃ l b xs zs, x = .ref l ∧ vs = [.ref b] ∧ H l = some (.lst xs) ∧ (∃ o : Obj, H b = some (.frz o (.tup zs)) ∧ o.dict = none ∧ o.slots = #[]) ∧ xs.length + zs.length ≤ sizeLine ∧ Q .non (upd H l (.lst (xs ++ zs)))
section
variable {X : Cx}
theorem mt_extT : MtR X "list.extend" (rExtT X.K) := by
  intro pins s σ H x vs v us Q I rx rv hyp
  obtain ⟨l, b, xs, zs, rfl, rfl, hH, ⟨o, hB, hd, hsl⟩, hz, fin⟩ := hyp
  cases rx
  obtain ⟨u, rfl, ru⟩ := rv.one
  cases ru
  obtain ⟨z, its, n, r, hl, e⟩ := I.lstM hH
  obtain ⟨e2, z2, its2, r2, hT⟩ := (show ObjOk X.prog X.w H s.heap b (.frz o (.tup zs)) from I.hok b _ hB)
  obtain ⟨o2, e3, hc2, n2, hd2⟩ := hT
  rw [e2] at e3
  cases e3
  obtain ⟨oc, od, dt, sl⟩ := o
  simp only at hc2 hd2 hd hsl
  subst hc2 hd2 hd hsl
  have w1 : its.length = xs.length := r.length.symm
  have w2 : its2.length = zs.length := r2.length.symm
  have size2 : its.toArray.size + its2.toArray.size ≤ sizeLine := by
    simp only [List.size_toArray, w1, w2]; exact hz
  have few : ¬ (!its.toArray.isEmpty && Builtin.List.listTooLong (its.toArray.size + its2.toArray.size)) = true := by
    rw [notLongL size2, Bool.and_false]; simp
  refine call_meets F.slot_list_extend ⟨_, e, rfl⟩ F.entry_list_extend (F.args_list_extend_2 _ _)
    (AutoSeq1.list_extend_list_tuple_0 l its.toArray n b its2.toArray n2 few (Nat.le_trans (Nat.le_add_right _ _) size2) (Nat.le_succ_of_le size2)) ⟨e, e2, ?_⟩
  refine ⟨.non, _, I.lset (its' := its ++ its2) hH e (by simp) (r.append r2) ?_, rfl, fin⟩
  simp only [List.length_append]; exact hz
end
/-! ### t[:0:-1]: a tuple backwards without its first item -/
section
variable {prog : Program} {w : World} {A : Around} {E : Value → Shared → Prop} {s : Shared}
theorem back_pick {α : Type} : ∀ l : List α, (List.range l.length).filterMap (fun m => l[l.length - 1 - m]?) = l.reverse := by
  intro l
  have h : ∀ k, k ≤ l.length → (List.range k).filterMap (fun m => l[l.length - 1 - m]?) = (l.drop (l.length - k)).reverse := by
    intro k
    induction k with
    | zero => intro _; simp
    | succ k ih =>
      intro hk
      rw [List.range_succ, List.filterMap_append, ih (by omega)]
      have e : l.drop (l.length - (k + 1)) = l[l.length - (k + 1)]'(by omega) :: l.drop (l.length - k) := by
        rw [List.drop_eq_getElem_cons (by omega)]
        congr 2
        omega
      rw [e, List.reverse_cons]
      congr 1
      have e2 : l[l.length - 1 - k]? = some (l[l.length - (k + 1)]'(by omega)) := by
        rw [← List.getElem?_eq_getElem]
        congr 1
        omega
      simp [e2]
  have := h l.length (Nat.le_refl _)
  simpa using this
theorem back_pick1 (xs : List Value) (h1 : 1 ≤ xs.length) : (List.range (xs.length - 1)).filterMap (fun (m : Nat) => xs[(((xs.length - 1 : Nat) : Int) + (m : Int) * (-1)).toNat]?) = (xs.drop 1).reverse := by
  have h := back_pick (xs.drop 1)
  rw [List.length_drop] at h
  rw [← h]
  have key : ∀ k, k ≤ xs.length - 1 → (List.range k).filterMap (fun (m : Nat) => xs[(((xs.length - 1 : Nat) : Int) + (m : Int) * (-1)).toNat]?) = (List.range k).filterMap (fun m => (xs.drop 1)[xs.length - 1 - 1 - m]?) := by
    intro k
    induction k with
    | zero => intro _; rfl
    | succ k ih =>
      intro hk
      rw [List.range_succ, List.filterMap_append, List.filterMap_append, ih (by omega)]
      congr 1
      have e : (((xs.length - 1 : Nat) : Int) + (k : Int) * (-1)).toNat = 1 + (xs.length - 1 - 1 - k) := by omega
      simp only [List.filterMap_cons, List.filterMap_nil, e, List.getElem?_drop]
  exact key _ (Nat.le_refl _)
theorem back_adjust (n : Nat) (h : 1 ≤ n) : Builtin.Slice.sliceAdjust none (some 0) (-1) (n : Int) = (((n - 1 : Nat) : Int), 0) := by
  unfold Builtin.Slice.sliceAdjust
  simp only [show ((-1 : Int) < 0) from by omega, if_true]
  refine Prod.ext ?_ ?_
  · show (n : Int) - 1 = _; omega
  · show (if (0 : Int) < 0 then max ((0 : Int) + (n : Int)) (-1) else min (0 : Int) ((n : Int) - 1)) = 0
    rw [if_neg (by omega)]; omega
theorem back_places (n : Nat) : Builtin.Slice.slicePlaces ((n : Nat) : Int) 0 (-1) = n := by
  unfold Builtin.Slice.slicePlaces
  simp only [show ¬ ((-1 : Int) > 0) from by omega, if_false, Int.neg_neg, Int.ediv_one]
  split <;> omega
theorem back_applied {sl : Addr} {vl vu vs : Value} {n : Nat} {Q : Int × Int × Nat → Shared → Prop} (h1 : 1 ≤ n) (hs : s.heap.IsSliceOf sl vl vu vs) (pl : IsPart vl none) (pu : IsPart vu (some 0)) (ps : IsPart vs (some (-1)))
    (h : Q (((n - 1 : Nat) : Int), -1, n - 1) s) : wpAny (model prog w) A (Builtin.Slice.sliceApplied (.ref sl) (pure (n : Int))) Q E s := by
  obtain ⟨os, ho, hc, hd⟩ := id hs
  unfold Builtin.Slice.sliceApplied Builtin.Slice.sliceFields
  refine wpAny_bind (wpAny_bind (wpAny_field ho hd (x := vl) rfl (wpAny_bind (wpAny_field ho hd (x := vu) rfl (wpAny_bind (wpAny_field ho hd (x := vs) rfl (wpAny_pure ?_)))))))
  refine wpAny_bind (HT.slicePart_ ps ?_)
  show wpAny _ _ (if ((-1 : Int) == 0) = true then _ else _) _ _ s
  rw [if_neg (by decide)]
  refine wpAny_bind (HT.slicePart_ pl (wpAny_bind (HT.slicePart_ pu (wpAny_bind (wpAny_pure ?_)))))
  show wpAny _ _ (match Builtin.Slice.sliceAdjust none (some 0) (-1) (n : Int) with | (lo, hi) => pure (lo, (-1 : Int), Builtin.Slice.slicePlaces lo hi (-1))) _ _ s
  rw [back_adjust n h1]
  show wpAny _ _ (pure (((n - 1 : Nat) : Int), (-1 : Int), Builtin.Slice.slicePlaces ((n - 1 : Nat) : Int) 0 (-1))) _ _ s
  rw [back_places]
  exact wpAny_pure h
theorem getItem_back {t sl : Addr} {items : Array Value} {vl vu vs : Value} {Q : Value → Shared → Prop} (h1 : 1 ≤ items.size) (ht : IsTup s.heap t items) (hs : s.heap.IsSliceOf sl vl vu vs) (pl : IsPart vl none) (pu : IsPart vu (some 0)) (ps : IsPart vs (some (-1)))
    (h : Q (.ref s.heap.objs.size) { s with heap := s.heap.push { cls := .type "tuple", data := .seq ((items.toList.drop 1).reverse).toArray } })
    (hsz : items.size ≤ sizeLine) : wpAny (model prog w) A (getItem (.ref t) (.ref sl)) Q E s := by
  have fits : sizeOk (.seq ((items.toList.drop 1).reverse).toArray) := by
    show ((items.toList.drop 1).reverse).toArray.size ≤ sizeLine
    simp only [List.size_toArray, List.length_reverse, List.length_drop, Array.length_toList]
    omega
  obtain ⟨os, ho, hc, hd⟩ := id hs
  have ty : s.TypeIs (.ref sl) "slice" := ⟨os, ho, hc⟩
  unfold getItem
  try with_reducible refine wpAny_holding ?_
  first | refine wpAny_bind (wpAny_pure ?_) | skip
  refine wpAny_bind (wpAny_sequenceKey ht.typeIs (by decide) ?_)
  refine wpAny_bind (wpAny_callSpecial?_slot (name := Str.ofString "__getitem__") ht.typeIs PyProof.Rows.slot_tuple_getitem
    (wpAny_call_entry PyProof.Rows.slot_tuple_getitem ht.typeIs F.entry_tuple_getitem ?_ (F.args_tuple_getitem_2 _ _)))
  show wpAny _ _ (Builtin.Tuple.tupleItemsOf (.ref t) >>= _) _ _ s
  refine wpAny_bind (tupleItemsOf_ ht ?_)
  refine wpAny_bind (wpAny_typeOf ty ?_)
  rw [if_pos (by decide)]
  refine wpAny_bind (back_applied (n := items.size) h1 hs pl pu ps ?_)
  have no : ¬ ((((items.size - 1 : Nat) : Int) == 0 && (-1 : Int) == 1 && (items.size - 1) == items.size) = true) := by simp
  show wpAny _ _ (if (((items.size - 1 : Nat) : Int) == 0 && (-1 : Int) == 1 && (items.size - 1) == items.size) = true then _ else _) _ _ s
  have e := back_pick1 items.toList (by simpa using h1)
  simp only [Array.length_toList, Array.getElem?_toList] at e
  rw [if_neg no, e]
  first
    | exact wpAny_bind (m := Builtin.Tuple.tupleExact _) (wpAny_newObj_type (wpAny_pure ⟨_, rfl, wpAny_pure h⟩) fits)
    | exact wpAny_bind (m := Builtin.Tuple.tupleExact _) (wpAny_newObj_type (wpAny_bind (wpAny_pure (wpAny_pure ⟨_, rfl, wpAny_pure h⟩))) fits)
    | exact wpAny_bind (wpAny_bind (m := Builtin.Tuple.tupleExact _) (wpAny_newObj_type (wpAny_pure (wpAny_pure ⟨_, rfl, wpAny_pure h⟩)) fits))
    | exact wpAny_bind (wpAny_bind (m := Builtin.Tuple.tupleExact _) (wpAny_newObj_type (wpAny_pure ⟨_, rfl, wpAny_pure h⟩) fits))
end
/-- what t[:0:-1] asks: t is not empty; the new tuple is told as an object that stands as it is -/
def tBackT (K : PySem.W.Frag) (te : TE) : TE := fun σ H Q => te σ H fun x H1 => ∃ a xs, x = .ref a ∧ SqT K H1 a xs ∧ xs ≠ [] ∧ ∀ p (o : Obj), H1 p = none → o.dict = none → o.slots = #[] → Q (.ref p) (upd H1 p (.frz o (.tup (xs.drop 1).reverse)))
section
variable {X : Cx}
theorem pe_cutback {e : Expr} {te : TE} {j k : Nat} {p0 p1 p2 p3 pos : Pos} (he : PE X e te) : PE X (.Subscript e (.Slice none (some (.Constant (.int 0) j p0)) (some (.UnaryOp .USub (.Constant (.int 1) k p1) p2)) p3) pos) (tBackT X.K te) := by
  refine ⟨fun pins s σ H Q I h => ?_⟩
  refine Subscript_ (thn (he.run pins s σ H _ I h) fun v s1 ⟨x, H1, I1, r1, q1⟩ => ?_)
  obtain ⟨a, xs, ex, hx, hne, fin⟩ := q1
  subst ex
  cases r1
  have hst : PO X (some (.UnaryOp .USub (.Constant (.int 1) k p1) p2)) (tPart (tUn (rU fun i => .int (-i)) (tC (.int 1)))) := po_some (pe_un un_neg pe_int)
  have hup : PO X (some (.Constant (.int 0) j p0)) (tPart (tC (.int 0))) := po_some pe_int
  refine wpAny_Slice (thn (po_none.run pins s1 σ H1 (fun o H2 => o = none ∧ H2 = H1) I1 ⟨rfl, rfl⟩) fun vl s2 ⟨l, H2, I2, pl, el, e2⟩ => ?_)
  subst el e2
  refine thn (hup.run pins s2 σ H2 (fun o H3 => o = some 0 ∧ H3 = H2) I2 ⟨0, rfl, rfl, rfl⟩) fun vu s3 ⟨u, H3, I3, pu, eu, e3⟩ => ?_
  subst eu e3
  refine thn (hst.run pins s3 σ H3 (fun o H4 => o = some (-1) ∧ H4 = H3) I3 ⟨1, rfl, -1, rfl, rfl, rfl⟩) fun vs s4 ⟨o, H4, I4, ps, eo, e4⟩ => ?_
  subst eo e4
  have I5 : Inv X pins σ H4 { s4 with heap := s4.heap.push { cls := .type "slice", data := .fields #[vl, vu, vs] } } := I4.kept (t' := s4.toks) fun b ob q => Heap.get?_push_of_some _ q
  obtain ⟨its, r, ht, hz⟩ := I5.tuple hx
  have hlen : its.length = xs.length := r.length.symm
  have h1 : 1 ≤ xs.length := by cases xs with | nil => exact absurd rfl hne | cons _ _ => simp
  show wpAny (model X.prog X.w) X.A (subscriptTail e (.Slice none (some (.Constant (.int 0) j p0)) (some (.UnaryOp .USub (.Constant (.int 1) k p1) p2)) p3) (.ref a) (.ref s4.heap.objs.size)) (EP X pins σ Q) X.xe { s4 with heap := s4.heap.push { cls := .type "slice", data := .fields #[vl, vu, vs] } }
  refine tail_any (ops := [.ref a, .ref s4.heap.objs.size]) ht.typeIs (PyProof.Rows.slot_tuple_getitem.lookup) ?_ (by with_unfolding_all rfl)
  refine getItem_back (by rw [List.size_toArray, hlen]; exact h1) ht (Heap.IsSliceOf.new _ vl vu vs) pl pu ps ?_ (by rw [List.size_toArray, hlen]; exact hz)
  refine ⟨.ref _, _, I5.laid (t' := s4.toks) (o := .frz { cls := .type "tuple", data := .seq ((its.drop 1).reverse).toArray } (.tup (xs.drop 1).reverse)) (fun b ob q => Heap.get?_push_of_some _ q) (Nat.le_refl _) ?_, rfl, fin _ _ (I5.hok.fresh (Nat.le_refl _)) rfl rfl⟩
  refine ⟨Heap.get?_push_size _ rfl, ?_, _, (r.drop 1).reverse, IsTup.new _ _⟩
  rw [List.length_reverse, List.length_drop]
  exact Nat.le_trans (Nat.sub_le _ _) hz
/-! ### tuple(l) of a list, told as an object that stands as it is -/
theorem call_tupleF : CallR X (.type "tuple") (fun xs H Q => ∃ p ys, xs = [.ref p] ∧ SqL X.K H p ys ∧ ∀ l (o : Obj), H l = none → o.dict = none → o.slots = #[] → Q (.ref l) (upd H l (.frz o (.tup ys)))) := by
  intro pins s σ H xs us Q I r hyp
  obtain ⟨p, ys, rfl, hq, fin⟩ := hyp
  obtain ⟨u, rfl, rx⟩ := vals1 r
  cases rx
  obtain ⟨its, r', pl, hz⟩ := I.list hq
  have w1 : its.length = ys.length := r'.length.symm
  refine call_tuple_list pl.isList (fun h' kp => ?_) (by rw [List.size_toArray, w1]; exact hz)
  have J : Inv X pins σ H { s with heap := h' } := I.kept (t' := s.toks) kp
  have J2 : Inv X pins σ (upd H h'.objs.size (.frz { cls := .type "tuple", data := .seq its.toArray } (.tup ys))) { s with heap := h'.push { cls := .type "tuple", data := .seq its.toArray } } :=
    J.laid (t' := s.toks) (fun b o e => Heap.get?_push_of_some _ e) (Nat.le_refl _) ⟨Heap.get?_push_size _ rfl, hz, its, r', IsTup.new _ _⟩
  exact ⟨.ref h'.objs.size, _, J2, rfl, fin _ _ (J.hok.fresh (Nat.le_refl _)) rfl rfl⟩
/-! ### dict(t) of a tuple of pairs -/
theorem pairs_list {pins : List (Addr × Obj)} {σ : L2.St} {H : Hp} {s : Shared} (I : Inv X pins σ H s) : ∀ {ps : List Addr} {kvs : List (Key × V)}, Paired (fun p kv => SqT X.K H p [kV kv.1, kv.2]) ps kvs →
    ∃ (prs : List (Key × Value)) (psv : List (Value × Value)), KV kvs prs ∧ prs.length = ps.length ∧ psv.length = ps.length ∧ ∀ (j : Nat) (u v : Value), psv[j]? = some (u, v) → ∃ b k, ps[j]? = some b ∧ prs[j]? = some (k, v) ∧ IsTup s.heap b #[u, v] ∧ keyIs k u = true
  | _, _, .nil => ⟨[], [], .nil, rfl, rfl, fun j u v e => by simp at e⟩
  | _, _, .cons (a := p) (b := kv) h t => by
    obtain ⟨prs, psv, r, l1, l2, hp⟩ := pairs_list I t
    obtain ⟨its, rv, ht, _⟩ := I.tuple h
    obtain ⟨u, y, ei, ru, ry⟩ := vals2 rv
    subst ei
    refine ⟨(kv.1, y) :: prs, (u, y) :: psv, .cons ⟨rfl, ry⟩ r, by simp [l1], by simp [l2], fun j u' v' e => ?_⟩
    cases j with
    | zero =>
      cases (Option.some.inj e)
      exact ⟨p, kv.1, rfl, rfl, ht, kV_is (P := X.prog) (w := X.w) ru⟩
    | succ j => exact hp j u' v' (by simpa using e)
theorem call_dictT (hcalm : X.calm = true) : CallR X (.type "dict") (fun xs H Q => ∃ (a : Addr) (o : Obj) (ps : List Addr) (kvs : List (Key × V)), xs = [.ref a] ∧ H a = some (.frz o (.tup (ps.map V.ref))) ∧ o.dict = none ∧ Paired (fun p kv => SqT X.K H p [kV kv.1, kv.2]) ps kvs ∧
    ∀ p, H p = none → Q (.ref p) (upd H p (.dK (mergeK [] kvs)))) := by
  intro pins s σ H xs us Q I r hyp
  obtain ⟨a, o, ps, kvs, ex, hq, hd, hp, fin⟩ := hyp
  subst ex
  obtain ⟨u, eu, rx⟩ := vals1 r
  subst eu
  cases rx
  obtain ⟨e2, hz, its, rv, hT⟩ := (show ObjOk X.prog X.w H s.heap a (.frz o (.tup (ps.map V.ref))) from I.hok a _ hq)
  obtain ⟨o2, e3, hc2, n2, hd2⟩ := hT
  rw [e2] at e3
  cases e3
  have ei := refs_at rv
  subst ei
  rw [List.length_map] at hz
  obtain ⟨prs, psv, rel, l1, l2, hpr⟩ := pairs_list I hp
  have items : PairItems s.heap (ps.map Value.ref).toArray (fun j => ps.getD j 0) psv := by
    refine ⟨by simp [l2], fun j k v e => ?_⟩
    obtain ⟨b, k', e1, _, e4, _⟩ := hpr j k v e
    refine ⟨by simp [e1], ?_⟩
    have eb : ps.getD j 0 = b := by simp [List.getD, e1]
    show PairAt s.heap (ps.getD j 0) k v
    rw [eb]
    exact .inl e4
  refine PySem.call_dict_pairs (knd := mixKind X.prog X.w) (kvs := prs) (PairArg.tuple a (ps.map Value.ref).toArray (fun j => ps.getD j 0) psv) (I.ok.hd hcalm) ⟨⟨o, n2, e2, hc2, hd, hd2⟩, items⟩ ⟨by rw [l1, l2], fun i key v e => ?_⟩ (by rw [l2]; exact hz) fun h' tk hd' k => ?_
  · obtain ⟨b, k', _, e5, _, e6⟩ := hpr i key v e
    exact ⟨k', e5, e6⟩
  · have hm : (s.heap.objs.size == sysModules) = false := beq_eq_false_iff_ne.mpr (Nat.ne_of_gt I.big)
    have few : (mergeK [] kvs).length ≤ sizeLine := by
      have z := length_mergeK kvs []
      rw [List.length_nil, Nat.zero_add, rel.length, l1] at z
      exact Nat.le_trans z hz
    exact ⟨.ref s.heap.objs.size, _, I.laid (t' := tk) (fun b o q => k b o (by simp) q) (Nat.le_refl _) (show ObjOk X.prog X.w _ _ _ (.dK (mergeK [] kvs)) from ⟨few, hm, merged [] prs, KV.merge rel .nil, hd'⟩), rfl, fin _ (I.hok.fresh (Nat.le_refl _))⟩
end
end Kx
namespace Kx
open PySem PySem.Spec PyProof.Rows L2
/-- a block cut behind its first statement: what holds there is named -/
theorem pss_cutK {X : Cx} {st : Stmt} {rest : List Stmt} {t u : TS} (h1 : PS X st t) (h2 : PSs X rest u) :
    PSs X (st :: rest) (fun D σ H => ∃ Mid : L2.St → Hp → Prop, t { D with nx := Mid } σ H ∧ ∀ σ' H', Mid σ' H' → u D σ' H') := Evl.pss_cut h1 h2
end Kx
namespace Kx
open PySem PySem.Spec PyProof.Rows L2
section
variable {X : Cx}
/-- a test, an expression, with a word behind it: what follows is shown once -/
theorem pt_cut {e : Expr} {t : TT} (h : PT X e t) : PT X e (fun σ H Q => ∃ M : Bool → Hp → Prop, t σ H M ∧ ∀ b H1, M b H1 → Q b H1) :=
  ⟨fun pins s σ H Q I ⟨M, hm, k⟩ => thn (h.run pins s σ H M I hm) fun b s1 ⟨H1, I1, q⟩ => ⟨H1, I1, k b H1 q⟩⟩
theorem pe_cut {e : Expr} {t : TE} (h : PE X e t) : PE X e (fun σ H Q => ∃ M : VK, t σ H M ∧ ∀ v H1, M v H1 → Q v H1) :=
  ⟨fun pins s σ H Q I ⟨M, hm, k⟩ => thn (h.run pins s σ H M I hm) fun b s1 ⟨v, H1, I1, r, q⟩ => ⟨v, H1, I1, r, k v H1 q⟩⟩
end
end Kx
namespace Kx
open PySem PySem.Spec PyProof.Rows L2
/-- a comprehension without a test: its element is asked -/
theorem yes_if {σ : L2.St} {H : Hp} {A B : Hp → Prop} (h : A H) : tYes σ H (fun b H3 => if b = true then A H3 else B H3) := by
  have e : (if true = true then A H else B H) := iteT h
  exact e
end Kx
set_option maxHeartbeats 2000000
/-! Tuples without a dict of their own: displays, slices, sums, tuple(xs). -/
namespace Kx
open PySem PySem.Spec PyProof.Rows L2
/-- a tuple, with nothing beside its items -/
def TupF (H : Hp) (a : Addr) (vs : List V) : Prop := ∃ o : Obj, H a = some (.frz o (.tup vs)) ∧ o.dict = none
theorem TupF.sq {K : PySem.W.Frag} {H : Hp} {a : Addr} {vs : List V} (h : TupF H a vs) : SqT K H a vs := by
  obtain ⟨o, e, _⟩ := h
  exact .inl (.inr ⟨o, e⟩)
theorem TupF.same {H H' : Hp} {a : Addr} {vs : List V} (s : Same H H') (h : TupF H a vs) : TupF H' a vs := by
  obtain ⟨o, e, d⟩ := h
  exact ⟨o, s _ _ e, d⟩
theorem TupF.det {H : Hp} {a : Addr} {vs us : List V} (h : TupF H a vs) (g : TupF H a us) : vs = us := by
  obtain ⟨o, e, _⟩ := h
  obtain ⟨o2, e2, _⟩ := g
  rw [e] at e2
  cases e2
  rfl
theorem TupF.ne {H : Hp} {a : Addr} {vs : List V} {o : HO} (h : TupF H a vs) (e : H a = some o) (n : ∀ p u, o ≠ .frz p u) : False := by
  obtain ⟨o2, e2, _⟩ := h
  rw [e] at e2
  exact n _ _ (Option.some.inj e2)
theorem upd_fresh {H : Hp} {p : Addr} (h : H p = none) (o : HO) : Same H (upd H p o) := fun b u e => by rw [upd_ne (ne_of_none e h)]; exact e
section
variable {X : Cx}
def tTupG (t : TA) : TE := fun σ H Q => t σ H fun vs H1 => vs.length ≤ sizeLine ∧ ∀ l H', H1 l = none → Same H1 H' → TupF H' l vs → Q (.ref l) H'
theorem pe_tupG {es : List Expr} {t : TA} {pos : Pos} {x1 : Nat} (ha : PA X es t) : PE X (.Tuple es x1 pos) (tTupG t) := by
  refine ⟨fun pins s σ H Q I h => ?_⟩
  refine wpAny_Tuple (thn (ha.run pos pins s σ H _ I h) fun us s1 ⟨vs, H1, J, r, len, fin⟩ => ?_)
  have l2 : us.length = vs.length := (Paired.length r).symm
  have l3 : us.length ≤ sizeLine := by omega
  have fr := J.hok.fresh (Nat.le_refl _)
  exact ⟨l3, .ref _, _, J.laid (t' := s1.toks) (o := .frz { cls := .type "tuple", data := .seq us.toArray } (.tup vs)) (fun b ob q => Heap.get?_push_of_some _ q) (Nat.le_refl _) ⟨Heap.get?_push_size _ rfl, len, us, r, IsTup.new _ _⟩, rfl, fin _ _ fr (upd_fresh fr _) ⟨_, upd_same, rfl⟩⟩
def rTupleG (K : PySem.W.Frag) : List V → Hp → VK → Prop := fun xs H Q => ∃ p ys, xs = [.ref p] ∧ SqL K H p ys ∧ ∀ l H', H l = none → Same H H' → TupF H' l ys → Q (.ref l) H'
theorem call_tupleG : CallR X (.type "tuple") (rTupleG X.K) := by
  intro pins s σ H xs us Q I r hyp
  obtain ⟨p, ys, rfl, hq, fin⟩ := hyp
  obtain ⟨u, rfl, rx⟩ := vals1 r
  cases rx
  obtain ⟨its, r', pl, hz⟩ := I.list hq
  have w1 : its.length = ys.length := r'.length.symm
  refine call_tuple_list pl.isList (fun h' kp => ?_) (by rw [List.size_toArray, w1]; exact hz)
  have J : Inv X pins σ H { s with heap := h' } := I.kept (t' := s.toks) kp
  have J2 : Inv X pins σ (upd H h'.objs.size (.frz { cls := .type "tuple", data := .seq its.toArray } (.tup ys))) { s with heap := h'.push { cls := .type "tuple", data := .seq its.toArray } } :=
    J.laid (t' := s.toks) (fun b o e => Heap.get?_push_of_some _ e) (Nat.le_refl _) ⟨Heap.get?_push_size _ rfl, hz, its, r', IsTup.new _ _⟩
  have fr := J.hok.fresh (Nat.le_refl _)
  exact ⟨.ref h'.objs.size, _, J2, rfl, fin _ _ fr (upd_fresh fr _) ⟨_, upd_same, rfl⟩⟩
theorem tupleGK {K : PySem.W.Frag} (h : X.K = K := by rfl) : CallR X (.type "tuple") (rTupleG K) := by subst h; exact call_tupleG
def rSlG : V → Option Int → Option Int → Hp → VK → Prop := fun x lo hi H Q => ∃ a xs, x = .ref a ∧ TupF H a xs ∧ ∀ p H', Same H H' → TupF H' p (cutV xs lo hi) → Q (.ref p) H'
theorem cut_whole {xs : List V} {lo hi : Option Int} (w : HT.sIx xs.length 0 lo = 0 ∧ HT.sIx xs.length xs.length hi = xs.length) : cutV xs lo hi = xs := by
  unfold cutV
  rw [w.1, w.2, List.drop_zero, Nat.sub_zero, List.take_length]
theorem sl_tupG : SlR X rSlG := by
  intro pins s σ H x v vl vu lo hi sl Q I rx hs pl pu h
  obtain ⟨a, xs, rfl, e, q⟩ := h
  cases (show v = Value.ref a from rx)
  obtain ⟨its, r, ht, hz⟩ := I.tuple (TupF.sq e)
  have ln : its.toArray.size = xs.length := by rw [List.size_toArray]; exact r.length.symm
  by_cases w : HT.sIx xs.length 0 lo = 0 ∧ HT.sIx xs.length xs.length hi = xs.length
  · refine ⟨"tuple", _, PyProof.Rows.slot_tuple_getitem.lookup, ht.typeIs, getItem_tuple_whole ht hs pl pu (by rw [ln]; exact w) ⟨.ref a, H, I, rfl, q a H (.refl _) (by rw [cut_whole w]; exact e)⟩⟩
  · refine ⟨"tuple", _, PyProof.Rows.slot_tuple_getitem.lookup, ht.typeIs, HT.getItem_tuple_cut ht hs pl pu (by rw [ln]; exact w) ?_ (by rw [ln]; exact hz)⟩
    rw [ln]
    have fr := I.hok.fresh (Nat.le_refl _)
    refine ⟨.ref s.heap.objs.size, _, I.laid (t' := s.toks) (o := .frz { cls := .type "tuple", data := .seq ((its.drop (HT.sIx xs.length 0 lo)).take (HT.sIx xs.length xs.length hi - HT.sIx xs.length 0 lo)).toArray } (.tup (cutV xs lo hi))) (fun b ob q => Heap.get?_push_of_some _ q) (Nat.le_refl _) ?_, rfl, q _ _ (upd_fresh fr _) ⟨_, upd_same, rfl⟩⟩
    exact ⟨Heap.get?_push_size _ rfl, Nat.le_trans (cutV_length xs lo hi) hz, _, (r.drop (HT.sIx xs.length 0 lo)).take (HT.sIx xs.length xs.length hi - HT.sIx xs.length 0 lo), IsTup.new _ _⟩
def rCatG : R2 := fun x y H Q => ∃ a b xs ys, x = .ref a ∧ y = .ref b ∧ TupF H a xs ∧ TupF H b ys ∧ xs.length + ys.length ≤ sizeLine ∧ ∀ p H', Same H H' → TupF H' p (xs ++ ys) → Q (.ref p) H'
theorem op_catG : OpR X (binaryOp .Add) rCatG := by
  intro pins s σ H x y v u Q I rx ry h
  obtain ⟨a, b, xs, ys, rfl, rfl, ha, hb, hz, q⟩ := h
  cases (show v = Value.ref a from rx)
  cases (show u = Value.ref b from ry)
  obtain ⟨its, r1, p1, _⟩ := I.tuple (TupF.sq ha)
  obtain ⟨its2, r2, p2, _⟩ := I.tuple (TupF.sq hb)
  have n1 := r1.length
  have n2 := r2.length
  by_cases hx : xs = []
  · subst hx
    have hv : its = [] := by cases its with | nil => rfl | cons _ _ => simp at n1
    subst hv
    obtain ⟨⟨cls, dd, data, sl⟩, ho, hc, n, hd⟩ := id p1
    obtain ⟨⟨cls2, dd2, data2, sl2⟩, ho2, hc2, m, hd2⟩ := id p2
    simp only at hc hd hc2 hd2
    subst hc hd hc2 hd2
    exact concat_meets ⟨_, ho, rfl⟩ ⟨_, ho2, rfl⟩ noFill_tuple_add seq_tuple_add F.slot_tuple_add F.entry_tuple_add (F.args_tuple_add_2 _ _) (tuple_addW0 a b _ _ n m dd dd2 sl sl2 rfl) ⟨ho, ho2, .ref b, H, I, rfl, q b H (.refl _) hb⟩
  · refine HT.cat_tup p1 p2 (fun z => hx ((Vals.nil_iff r1).mp z)) (fun z => ?_) (fun z => ?_) (by omega)
    · have : ys = [] := (Vals.nil_iff r2).mp z
      exact ⟨.ref a, H, I, rfl, q a H (.refl _) (by rw [this, List.append_nil]; exact ha)⟩
    · have fr := I.hok.fresh (Nat.le_refl _)
      exact ⟨.ref s.heap.objs.size, _, I.laid (t' := s.toks) (o := .frz { cls := .type "tuple", data := .seq (its ++ its2).toArray } (.tup (xs ++ ys))) (fun b ob q => Heap.get?_push_of_some _ q) (Nat.le_refl _) ⟨Heap.get?_push_size _ rfl, by rw [List.length_append]; exact hz, _, r1.append r2, IsTup.new _ _⟩, rfl, q _ _ (upd_fresh fr _) ⟨_, upd_same, rfl⟩⟩
end
end Kx
/-! The mathematics: values as trees, what the two sides compute. -/
namespace Kx
open PySem PySem.Spec PyProof.Rows L2
/-- what is no text and no tuple -/
inductive Ot where
  | non
  | bl (b : Bool)
  | int (i : Int)
  | lst
  | dict
inductive PV where
  | str (z : Str)
  | oth (o : Ot)
  | tup (xs : List PV)
mutual
/-- how deep it is -/
def dep : PV → Nat
  | .str _ => 1
  | .oth _ => 1
  | .tup ts => 1 + depL ts
def depL : List PV → Nat
  | [] => 0
  | t :: r => max (dep t) (depL r)
end
theorem dep_pos : ∀ t : PV, 1 ≤ dep t
  | .str _ => by simp [dep]
  | .oth _ => by simp [dep]
  | .tup ts => by simp [dep]
theorem depL_mem : ∀ {l : List PV} {t : PV}, t ∈ l → dep t ≤ depL l
  | a :: r, t, h => by
    rcases List.mem_cons.mp h with rfl | h
    · simp only [depL]; omega
    · have := depL_mem h
      simp only [depL]; omega
theorem depL_le {l : List PV} {c : Nat} (h : ∀ t ∈ l, dep t ≤ c) : depL l ≤ c := by
  induction l with
  | nil => simp [depL]
  | cons a r ih =>
    have h1 := h a (List.mem_cons_self ..)
    have h2 := ih fun t ht => h t (List.mem_cons_of_mem _ ht)
    simp only [depL]; omega
/-- so deep at most, and of few items and signs everywhere -/
def OkW (w : Nat) : Nat → PV → Prop
  | 0, _ => False
  | _ + 1, .str z => z.length ≤ 100
  | _ + 1, .oth _ => True
  | n + 1, .tup ts => ts.length ≤ w ∧ ∀ t ∈ ts, OkW w n t
abbrev Ok (n : Nat) (t : PV) : Prop := OkW 40 n t
theorem OkW.dep {w : Nat} : ∀ {n : Nat} {t : PV}, OkW w n t → Kx.dep t ≤ n
  | n + 1, .str z, _ => by simp [Kx.dep]
  | n + 1, .oth _, _ => by simp [Kx.dep]
  | n + 1, .tup ts, h => by
    have := depL_le (l := ts) (c := n) fun t ht => OkW.dep (h.2 t ht)
    simp only [Kx.dep]; omega
theorem OkW.succ {w : Nat} : ∀ {n : Nat} {t : PV}, OkW w n t → OkW w (n + 1) t
  | n + 1, .str z, h => h
  | n + 1, .oth _, _ => trivial
  | n + 1, .tup ts, h => ⟨h.1, fun t ht => OkW.succ (h.2 t ht)⟩
theorem OkW.mono {w n m : Nat} {t : PV} (h : OkW w n t) (l : n ≤ m) : OkW w m t := by
  induction l with
  | refl => exact h
  | step _ ih => exact ih.succ
theorem OkW.wide {w w2 : Nat} (l : w ≤ w2) : ∀ {n : Nat} {t : PV}, OkW w n t → OkW w2 n t
  | n + 1, .str z, h => h
  | n + 1, .oth _, _ => trivial
  | n + 1, .tup ts, h => ⟨Nat.le_trans h.1 l, fun t ht => OkW.wide l (h.2 t ht)⟩
theorem OkW.mem {w n : Nat} {ts : List PV} (h : OkW w (n + 1) (.tup ts)) {t : PV} (m : t ∈ ts) : OkW w n t := h.2 t m
/-- the number of parts of the maker with a word -/
def look (mk : List (Str × Int)) (w : Str) : Option Int := (mk.find? fun kv => kv.1 == w).map (·.2)
mutual
/-- is it a term (nm) or a tree? -/
def form (mk : List (Str × Int)) (nm : Bool) : PV → Bool
  | .str z => nm && (look mk z).isNone
  | .oth _ => false
  | .tup [] => false
  | .tup (.oth _ :: _) => false
  | .tup (.tup _ :: _) => false
  | .tup (.str w :: r) => (look mk w == some (r.length : Int)) && formL mk nm r
def formL (mk : List (Str × Int)) (nm : Bool) : List PV → Bool
  | [] => true
  | t :: r => form mk nm t && formL mk nm r
end
theorem formL_all (mk : List (Str × Int)) (nm : Bool) : ∀ l : List PV, formL mk nm l = l.all (form mk nm)
  | [] => rfl
  | t :: r => by simp only [formL, List.all_cons, formL_all mk nm r]
mutual
/-- the shape of a term: a text, or a tuple of a text and terms -/
def Tm : PV → Prop
  | .str _ => True
  | .oth _ => False
  | .tup [] => False
  | .tup (.oth _ :: _) => False
  | .tup (.tup _ :: _) => False
  | .tup (.str _ :: r) => TmL r
def TmL : List PV → Prop
  | [] => True
  | t :: r => Tm t ∧ TmL r
end
theorem TmL_mem : ∀ {l : List PV}, (∀ t ∈ l, Tm t) → TmL l
  | [], _ => trivial
  | t :: r, h => ⟨h t (List.mem_cons_self ..), TmL_mem fun x hx => h x (List.mem_cons_of_mem _ hx)⟩
theorem mem_TmL : ∀ {l : List PV}, TmL l → ∀ t ∈ l, Tm t
  | a :: r, h, t, ht => by
    rcases List.mem_cons.mp ht with rfl | ht
    · exact h.1
    · exact mem_TmL h.2 t ht
mutual
theorem form_tm {mk : List (Str × Int)} {nm : Bool} : ∀ t : PV, form mk nm t = true → Tm t
  | .str z, _ => trivial
  | .tup (.str w :: r), h => by
    simp only [form, Bool.and_eq_true] at h
    exact formL_tm r h.2
  | .oth _, h => by simp [form] at h
  | .tup [], h => by simp [form] at h
  | .tup (.oth _ :: _), h => by simp [form] at h
  | .tup (.tup _ :: _), h => by simp [form] at h
theorem formL_tm {mk : List (Str × Int)} {nm : Bool} : ∀ l : List PV, formL mk nm l = true → TmL l
  | [], _ => trivial
  | t :: r, h => by
    simp only [formL, Bool.and_eq_true] at h
    exact ⟨form_tm t h.1, formL_tm r h.2⟩
end
end Kx
/-! The heap: what stands for a tree; the promises of the defs. -/
namespace Kx
open PySem PySem.Spec PyProof.Rows L2
/-- all its signs are signs -/
abbrev sok (z : Str) : Bool := PyData.strOk z
mutual
/-- the value v stands for the tree -/
inductive Is (H : Hp) : V → PV → Prop
  | str (z : Str) (ok : sok z = true) : Is H (.str z) (.str z)
  | non : Is H .non (.oth .non)
  | bl (b : Bool) : Is H (.bl b) (.oth (.bl b))
  | int (i : Int) : Is H (.int i) (.oth (.int i))
  | lst {a : Addr} (e : ∃ xs, H a = some (.lst xs)) : Is H (.ref a) (.oth .lst)
  | dict {a : Addr} {kvs : List (Key × V)} (e : H a = some (.dK kvs)) : Is H (.ref a) (.oth .dict)
  | tup {a : Addr} {vs : List V} {ts : List PV} (e : TupF H a vs) (h : IsL H vs ts) : Is H (.ref a) (.tup ts)
inductive IsL (H : Hp) : List V → List PV → Prop
  | nil : IsL H [] []
  | cons {v : V} {vs : List V} {t : PV} {ts : List PV} (h : Is H v t) (r : IsL H vs ts) : IsL H (v :: vs) (t :: ts)
end
mutual
theorem Is.same {H H' : Hp} (x : Same H H') : ∀ {v : V} {t : PV}, Is H v t → Is H' v t
  | _, _, .str z k => .str z k
  | _, _, .non => .non
  | _, _, .bl b => .bl b
  | _, _, .int i => .int i
  | _, _, .lst e => .lst (e.elim fun xs e => ⟨xs, x _ _ e⟩)
  | _, _, .dict e => .dict (x _ _ e)
  | _, _, .tup e h => .tup (e.same x) (IsL.same x h)
theorem IsL.same {H H' : Hp} (x : Same H H') : ∀ {v : List V} {t : List PV}, IsL H v t → IsL H' v t
  | _, _, .nil => .nil
  | _, _, .cons h r => .cons (Is.same x h) (IsL.same x r)
end
theorem same_upd {H : Hp} {p : Addr} (h : H p = none) (o : HO) : Same H (upd H p o) := fun b u e => by rw [upd_ne (ne_of_none e h)]; exact e
theorem IsL.len {H : Hp} : ∀ {v : List V} {t : List PV}, IsL H v t → v.length = t.length
  | _, _, .nil => rfl
  | _, _, .cons _ r => by simp [IsL.len r]
theorem IsL.get {H : Hp} : ∀ {v : List V} {t : List PV}, IsL H v t → ∀ {i : Nat} {x : V}, v[i]? = some x → ∃ y, t[i]? = some y ∧ Is H x y
  | _, _, .nil, i, x, h => by simp at h
  | _, _, .cons h r, 0, x, e => by cases (Option.some.inj e); exact ⟨_, rfl, h⟩
  | _, _, .cons h r, i + 1, x, e => IsL.get r (by simpa using e)
theorem IsL.append {H : Hp} : ∀ {v : List V} {t : List PV} {v' : List V} {t' : List PV}, IsL H v t → IsL H v' t' → IsL H (v ++ v') (t ++ t')
  | _, _, _, _, .nil, h => h
  | _, _, _, _, .cons a r, h => .cons a (r.append h)
theorem IsL.take {H : Hp} : ∀ (n : Nat) {v : List V} {t : List PV}, IsL H v t → IsL H (v.take n) (t.take n)
  | 0, _, _, _ => .nil
  | n + 1, _, _, .nil => .nil
  | n + 1, _, _, .cons a r => .cons a (r.take n)
theorem IsL.drop {H : Hp} : ∀ (n : Nat) {v : List V} {t : List PV}, IsL H v t → IsL H (v.drop n) (t.drop n)
  | 0, _, _, h => h
  | n + 1, _, _, .nil => .nil
  | n + 1, _, _, .cons a r => r.drop n
theorem IsL.reverse {H : Hp} : ∀ {v : List V} {t : List PV}, IsL H v t → IsL H v.reverse t.reverse
  | _, _, .nil => .nil
  | _, _, .cons a r => by simp only [List.reverse_cons]; exact r.reverse.append (.cons a .nil)
theorem IsL.snoc_inv {H : Hp} {v : List V} {t : List PV} {x : V} (h : IsL H v t) (e : v[v.length - 1]? = some x) (hn : v ≠ []) : ∃ ts y, t = ts ++ [y] ∧ Is H x y ∧ IsL H v.dropLast ts := by
  have hl := h.len
  have hv : 0 < v.length := by cases v with | nil => exact absurd rfl hn | cons _ _ => simp
  obtain ⟨y, e2, hy⟩ := h.get e
  refine ⟨t.take (t.length - 1), y, ?_, hy, ?_⟩
  · have : t.length - 1 < t.length := by omega
    have e3 : t[t.length - 1]'this = y := by
      rw [hl, List.getElem?_eq_getElem this] at e2
      exact Option.some.inj e2
    have h2 := List.take_append_drop (t.length - 1) t
    have h3 : t.drop (t.length - 1) = [y] := by
      rw [List.drop_eq_getElem_cons this, e3, List.drop_eq_nil_of_le (by omega)]
    rw [h3] at h2
    exact h2.symm
  · rw [List.dropLast_eq_take, hl]
    exact h.take _
theorem Is.str_inv {H : Hp} {v : V} {z : Str} (h : Is H v (.str z)) : v = .str z := by cases h; rfl
theorem Is.tup_inv {H : Hp} {v : V} {ts : List PV} (h : Is H v (.tup ts)) : ∃ a vs, v = .ref a ∧ TupF H a vs ∧ IsL H vs ts := by
  cases h with
  | tup e h => exact ⟨_, _, rfl, e, h⟩
/-! ### isinstance -/
def tyName : PV → String
  | .str _ => "str"
  | .tup _ => "tuple"
  | .oth .non => "NoneType"
  | .oth (.bl _) => "bool"
  | .oth (.int _) => "int"
  | .oth .lst => "list"
  | .oth .dict => "dict"
def tyOf (t : PV) (u : Value) : Prop := u = .type (tyName t)
theorem Is.ty {K : PySem.W.Frag} {H : Hp} {v : V} {t : PV} (h : Is H v t) : ∃ u, TyX K H v u ∧ tyOf t u := by
  cases h with
  | str z _ => exact ⟨_, .base (.str z), rfl⟩
  | non => exact ⟨_, .base .non, rfl⟩
  | bl b => exact ⟨_, .base (.bl b), rfl⟩
  | int i => exact ⟨_, .base (.int i), rfl⟩
  | lst e => obtain ⟨xs, e⟩ := e; exact ⟨_, .base (.lst e), rfl⟩
  | dict e => exact ⟨_, .base (.dK e), rfl⟩
  | tup e h => obtain ⟨o, e, _⟩ := e; exact ⟨_, .fTuple e, rfl⟩
def isStr : PV → Bool
  | .str _ => true
  | _ => false
def isTup : PV → Bool
  | .tup _ => true
  | _ => false
/-- a whole number, or True or False -/
def isIn : PV → Bool
  | .oth (.int _) => true
  | .oth (.bl _) => true
  | _ => false
def isBl : PV → Bool
  | .oth (.bl _) => true
  | _ => false
theorem kit_str {K : PySem.W.Frag} {t : PV} {u : Value} (h : tyOf t u) : PySem.W.kitOne K u (.type "str") = some (isStr t) := by
  cases h
  cases t with
  | str z => exact kit_ty (show kitB "str" "str" = some true by decide +kernel)
  | tup ts => exact kit_ty (show kitB "tuple" "str" = some false by decide +kernel)
  | oth o =>
    cases o with
    | non => exact kit_ty (show kitB "NoneType" "str" = some false by decide +kernel)
    | bl _ => exact kit_ty (show kitB "bool" "str" = some false by decide +kernel)
    | int _ => exact kit_ty (show kitB "int" "str" = some false by decide +kernel)
    | lst => exact kit_ty (show kitB "list" "str" = some false by decide +kernel)
    | dict => exact kit_ty (show kitB "dict" "str" = some false by decide +kernel)
theorem kit_tup {K : PySem.W.Frag} {t : PV} {u : Value} (h : tyOf t u) : PySem.W.kitOne K u (.type "tuple") = some (isTup t) := by
  cases h
  cases t with
  | str z => exact kit_ty (show kitB "str" "tuple" = some false by decide +kernel)
  | tup ts => exact kit_ty (show kitB "tuple" "tuple" = some true by decide +kernel)
  | oth o =>
    cases o with
    | non => exact kit_ty (show kitB "NoneType" "tuple" = some false by decide +kernel)
    | bl _ => exact kit_ty (show kitB "bool" "tuple" = some false by decide +kernel)
    | int _ => exact kit_ty (show kitB "int" "tuple" = some false by decide +kernel)
    | lst => exact kit_ty (show kitB "list" "tuple" = some false by decide +kernel)
    | dict => exact kit_ty (show kitB "dict" "tuple" = some false by decide +kernel)
theorem kit_int {K : PySem.W.Frag} {t : PV} {u : Value} (h : tyOf t u) : PySem.W.kitOne K u (.type "int") = some (isIn t) := by
  cases h
  cases t with
  | str z => exact kit_ty (show kitB "str" "int" = some false by decide +kernel)
  | tup ts => exact kit_ty (show kitB "tuple" "int" = some false by decide +kernel)
  | oth o =>
    cases o with
    | non => exact kit_ty (show kitB "NoneType" "int" = some false by decide +kernel)
    | bl _ => exact kit_ty (show kitB "bool" "int" = some true by decide +kernel)
    | int _ => exact kit_ty (show kitB "int" "int" = some true by decide +kernel)
    | lst => exact kit_ty (show kitB "list" "int" = some false by decide +kernel)
    | dict => exact kit_ty (show kitB "dict" "int" = some false by decide +kernel)
theorem kit_bl {K : PySem.W.Frag} {t : PV} {u : Value} (h : tyOf t u) : PySem.W.kitOne K u (.type "bool") = some (isBl t) := by
  cases h
  cases t with
  | str z => exact kit_ty (show kitB "str" "bool" = some false by decide +kernel)
  | tup ts => exact kit_ty (show kitB "tuple" "bool" = some false by decide +kernel)
  | oth o =>
    cases o with
    | non => exact kit_ty (show kitB "NoneType" "bool" = some false by decide +kernel)
    | bl _ => exact kit_ty (show kitB "bool" "bool" = some true by decide +kernel)
    | int _ => exact kit_ty (show kitB "int" "bool" = some false by decide +kernel)
    | lst => exact kit_ty (show kitB "list" "bool" = some false by decide +kernel)
    | dict => exact kit_ty (show kitB "dict" "bool" = some false by decide +kernel)
theorem Paired.imp {α β : Type} {F G : α → β → Prop} : ∀ {l : List α} {m : List β}, Paired F l m → (∀ a b, F a b → G a b) → Paired G l m
  | _, _, .nil, _ => .nil
  | _, _, .cons h t, f => .cons (f _ _ h) (Paired.imp t f)
theorem Same.own {l : Addr} {H H1 : Hp} (x : Same H H1) (hl : H l = none) (o : HO) : Same H (upd H1 l o) := fun b u h => by rw [upd_ne (ne_of_none h hl)]; exact x b u h
end Kx
set_option maxHeartbeats 2000000
/-! == of a term and any value; del of the first items of a list. -/
namespace Kx
open PySem PySem.Spec PyProof.Rows L2
open MeetsSeq
open AutoSeq1 (wpAny_loadPart')
theorem str_declines_dict (b : Str) (u : Tok) (l : Addr) (c : Value) (es : Array DictEntry) (n : Nat) (dd : Option Addr) (sl : Array (Option Value)) :
    Meets (Builtin.«str.__eq__» ⟨[.str b u, .ref l], []⟩) (fun _ R s => s.heap.get? l = some { cls := c, dict := dd, data := .dict es n, slots := sl } ∧ R (.ok (.ret .notImplemented)) s) :=
  .of_wp fun prog w A R s h => by obtain ⟨hp, g, d, tk, os⟩ := s; obtain ⟨hl, h⟩ := h; wp_walk using wpAny_loadPart' hl, wpAny_load hl; exact ⟨_, rfl, h⟩
theorem tuple_declines_dict (l b : Addr) (items : Array Value) (n n2 : Nat) (dd dd2 : Option Addr) (sl sl2 : Array (Option Value)) (es : Array DictEntry) :
    Meets (Builtin.«tuple.__eq__» ⟨[.ref l, .ref b], []⟩) (fun _ R s => s.heap.get? l = some { cls := .type "tuple", dict := dd, data := .seq items n, slots := sl } ∧ s.heap.get? b = some { cls := .type "dict", dict := dd2, data := .dict es n2, slots := sl2 } ∧ R (.ok (.ret .notImplemented)) s) :=
  .of_wp fun prog w A R s h => by obtain ⟨hp, g, d, tk, os⟩ := s; obtain ⟨hl, hb, h⟩ := h; have f1 := F.sub_dict_tuple; wp_walk using wpAny_loadPart' hl, wpAny_loadPart' hb; exact ⟨_, rfl, h⟩
section
variable {prog : Program} {w : World} {A : Around} {E : Value → Shared → Prop} {s : Shared}
theorem dict_declines {b : Addr} {v : Value} {T : String} {Q : Value → Shared → Prop} (hb : s.TypeIs (.ref b) "dict") (hv : s.TypeIs v T) (hs : isSubtype (.type T) (.type "dict") = pure false) (h : Q .notImplemented s) :
    wpAny (model prog w) A (call (.builtin "dict.__eq__") [.ref b, v]) Q E s := by
  refine wpAny_call_entry PySem.F.slot_dict_eq hb PySem.F.entry_dict_eq ?_ (PySem.F.args_dict_eq_2 _ _)
  show wpAny _ _ (Builtin.Dict.dictSlotArgs "__eq__" ⟨[.ref b, v], []⟩ >>= _) _ _ s
  refine wpAny_bind ?_
  unfold Builtin.Dict.dictSlotArgs
  refine wpAny_bind (wpAny_notOrdered_dict hb ?_)
  show wpAny _ _ (pure (Value.ref b, v)) _ _ s
  refine wpAny_pure ?_
  refine wpAny_bind (wpAny_isInstance (T := T) hv hs ?_)
  simp only [Bool.not_false, if_true]
  refine wpAny_bind (wpAny_rule (wpAny_bind (wpAny_pure (wpAny_pure ⟨_, rfl, h⟩))))
end
section
variable {A : Around} {s : Shared}
/-- an exact dict stands at an address -/
def DictAt (s : Shared) (a : Addr) : Prop := ∃ es n dd sl, s.heap.get? a = some { cls := .type "dict", dict := dd, data := .dict es n, slots := sl }
theorem DictAt.typeIs {a : Addr} (h : DictAt s a) : s.TypeIs (.ref a) "dict" := by
  obtain ⟨es, n, dd, sl, h⟩ := h
  exact ⟨_, h, rfl⟩
theorem dictAt {X : Cx} {pins : List (Addr × Obj)} {σ : L2.St} {H : Hp} (I : Inv X pins σ H s) {a : Addr} {kvs : List (Key × V)} (e : H a = some (.dK kvs)) : DictAt s a := by
  obtain ⟨_, ya, va, ra, da⟩ := (show ObjOk X.prog X.w H s.heap a (.dK kvs) from I.hok a _ e)
  obtain ⟨⟨cls, dd, data, sl⟩, es, ep, h1, h2, h3, _⟩ := da
  simp only at h3
  subst h3
  have hc : cls = .type "dict" := h2.1
  subst hc
  exact ⟨es, ep, dd, sl, h1⟩
theorem eq_str_dict {a : Addr} (e : DictAt s a) (b : Str) (u : Tok) (hu : A.units < cLine) : SeqAt.EqAt A s (.str b u) (.ref a) false := fun prog w E Q h => by
  unfold eqBool
  refine wpAny_holding ?_
  refine wpAny_ite_split (fun hab => absurd (eq_of_beq hab) nofun) (fun _ => ?_)
  obtain ⟨es, n, dd, sl, ha⟩ := id e
  refine wpAny_bind (SeqAt.rc_eq_decline_or (k := false) (typeIs_str s b u) e.typeIs (by decide) PySem.F.sub_dict_str PySem.F.slot_str_eq PySem.F.slot_dict_eq_refl
    (fun _ hq => call_meets PySem.F.slot_str_eq (typeIs_str s b u) PySem.F.entry_str_eq (PySem.F.args_str_eq_2 _ _) (str_declines_dict b u a (.type "dict") es n dd sl) ⟨ha, hq⟩)
    (fun _ hq => dict_declines e.typeIs (typeIs_str s b u) PySem.F.sub_str_dict hq)
    (fun _ hq => wpAny_of_eq (rfl : isSame (.str b u) (.ref a) = pure false) hq) (.inr hu) (wpAny_truthy_bool h))
theorem eq_tuple_dict {l a : Addr} {items : Array Value} (hl : s.heap.IsTuple l items) (e : DictAt s a) (hu : A.units < cLine) : SeqAt.EqAt A s (.ref l) (.ref a) false := by
  obtain ⟨⟨cls, dd, data, sl⟩, ho, hc, n, hd⟩ := id hl
  obtain ⟨es, n2, dd2, sl2, ha⟩ := id e
  simp only at hc hd
  subst hc hd
  have hne : l ≠ a := fun q => by
    subst q
    rw [ho] at ha
    have := congrArg Obj.cls (Option.some.inj ha)
    simp at this
  refine .of_refs hne fun prog w E Q h => ?_
  exact SeqAt.rc_eq_decline_or (k := false) ⟨_, ho, rfl⟩ e.typeIs (by decide) PySem.F.sub_dict_tuple PySem.F.slot_tuple_eq PySem.F.slot_dict_eq_refl
    (fun _ hq => call_meets PySem.F.slot_tuple_eq ⟨_, ho, rfl⟩ PySem.F.entry_tuple_eq (PySem.F.args_tuple_eq_2 _ _) (tuple_declines_dict l a items n n2 dd dd2 sl sl2 es) ⟨ho, ha, hq⟩)
    (fun _ hq => dict_declines e.typeIs ⟨_, ho, rfl⟩ PySem.F.sub_tuple_dict hq)
    (fun _ hq => SeqAt.wpAny_isSame_ref_other' hne ho ha (by simp) hq) (.inr hu) h
end
/-! ### a term and any value -/
theorem isL_det_of {H : Hp} : True := trivial
mutual
theorem Is.det {H : Hp} : ∀ {v : V} {t t' : PV}, Is H v t → Is H v t' → t = t'
  | _, _, _, .str z _, .str _ _ => rfl
  | _, _, _, .non, .non => rfl
  | _, _, _, .bl b, .bl _ => rfl
  | _, _, _, .int i, .int _ => rfl
  | _, _, _, .lst e, h => by
    cases h with
    | lst _ => rfl
    | dict e2 => obtain ⟨xs, e⟩ := e; rw [e] at e2; cases e2
    | tup e2 _ => obtain ⟨xs, e⟩ := e; exact (e2.ne e fun _ _ z => by cases z).elim
  | _, _, _, .dict e, h => by
    cases h with
    | lst e2 => obtain ⟨xs, e2⟩ := e2; rw [e] at e2; cases e2
    | dict _ => rfl
    | tup e2 _ => exact (e2.ne e fun _ _ z => by cases z).elim
  | _, _, _, .tup e a, h => by
    cases h with
    | lst e2 => obtain ⟨xs, e2⟩ := e2; exact (e.ne e2 fun _ _ z => by cases z).elim
    | dict e2 => exact (e.ne e2 fun _ _ z => by cases z).elim
    | tup e2 b =>
      cases e.det e2
      rw [IsL.det a b]
theorem IsL.det {H : Hp} : ∀ {v : List V} {t t' : List PV}, IsL H v t → IsL H v t' → t = t'
  | _, _, _, .nil, .nil => rfl
  | _, _, _, .cons a r, .cons b q => by rw [Is.det a b, IsL.det r q]
end
open Classical in
/-- are they one tree -/
noncomputable def one (a b : PV) : Bool := decide (a = b)
theorem one_self (a : PV) : one a a = true := by simp [one]
theorem one_ne {a b : PV} (h : a ≠ b) : one a b = false := by simp [one, h]
theorem one_iff {a b : PV} : one a b = true ↔ a = b := by simp [one]
theorem eq_term {X : Cx} {pins : List (Addr × Obj)} {σ : L2.St} {H : Hp} {s : Shared} (I : Inv X pins σ H s) : ∀ (n : Nat) (A : Around), A.units + n < cLine → ∀ (x y : V) (v u : Value) (a b : PV), dep a ≤ n → Is H x a → Tm a → Is H y b → RelV x v → RelV y u → SeqAt.EqAt A s v u (one a b)
  | 0, _, _, _, _, _, _, a, _, h, _, _, _, _, _ => absurd (dep_pos a) (by omega)
  | n + 1, A, hu, x, y, v, u, a, b, hc, ha, ta, hb, rx, ry => by
    have hu0 : A.units < cLine := by omega
    cases ha with
    | non => exact absurd ta id
    | bl _ => exact absurd ta id
    | int _ => exact absurd ta id
    | lst _ => exact absurd ta id
    | dict _ => exact absurd ta id
    | str z ok =>
      obtain ⟨t, rfl⟩ := (show ∃ t, v = Value.str z t from rx)
      cases hb with
      | str z2 ok2 =>
        obtain ⟨t2, rfl⟩ := (show ∃ t, u = Value.str z2 t from ry)
        have e : one (.str z) (.str z2) = (z == z2) := by
          by_cases q : z = z2
          · subst q; simp [one]
          · rw [one_ne (fun e => q (PV.str.inj e))]; simp [q]
        rw [e]
        exact .str_str z t z2 t2
      | non =>
        cases (show u = Value.none from ry)
        rw [one_ne (by simp)]
        exact .str_none _ _
      | bl b =>
        cases (show u = Value.bool b from ry)
        rw [one_ne (by simp)]
        exact .str_bool _ _ _
      | int i =>
        obtain ⟨t2, rfl⟩ := (show ∃ t, u = Value.int i t from ry)
        rw [one_ne (by simp)]
        exact .str_int _ _ _ _
      | lst e =>
        obtain ⟨xs, e⟩ := e
        cases (show u = Value.ref _ from ry)
        obtain ⟨us, r1, p1, _⟩ := I.list (SqL.of e)
        rw [one_ne (by simp)]
        exact .str_list _ _ p1.isList hu0
      | dict e =>
        cases (show u = Value.ref _ from ry)
        rw [one_ne (by simp)]
        exact eq_str_dict (dictAt I e) _ _ hu0
      | tup e h =>
        cases (show u = Value.ref _ from ry)
        obtain ⟨its, r, ht, _⟩ := I.tuple (TupF.sq e)
        rw [one_ne (by simp)]
        exact .str_tuple _ _ ht hu0
    | @tup p vs ts e hL =>
      cases (show v = Value.ref _ from rx)
      obtain ⟨its, r, ht, _⟩ := I.tuple (TupF.sq e)
      cases hb with
      | str z2 ok2 =>
        obtain ⟨t2, rfl⟩ := (show ∃ t, u = Value.str z2 t from ry)
        rw [one_ne (by simp)]
        exact .tuple_str _ _ ht hu0
      | non =>
        cases (show u = Value.none from ry)
        rw [one_ne (by simp)]
        exact .tuple_none ht hu0
      | bl b =>
        cases (show u = Value.bool b from ry)
        rw [one_ne (by simp)]
        exact .tuple_bool _ ht hu0
      | int i =>
        obtain ⟨t2, rfl⟩ := (show ∃ t, u = Value.int i t from ry)
        rw [one_ne (by simp)]
        exact .tuple_int _ _ ht hu0
      | lst e2 =>
        obtain ⟨xs, e2⟩ := e2
        cases (show u = Value.ref _ from ry)
        obtain ⟨us, r1, p1, _⟩ := I.list (SqL.of e2)
        rw [one_ne (by simp)]
        exact .tuple_list ht p1.isList hu0
      | dict e2 =>
        cases (show u = Value.ref _ from ry)
        rw [one_ne (by simp)]
        exact eq_tuple_dict ht (dictAt I e2) hu0
      | @tup p2 vs2 ts2 e2 hL2 =>
        cases (show u = Value.ref _ from ry)
        obtain ⟨its2, r2, ht2, _⟩ := I.tuple (TupF.sq e2)
        by_cases hp : p = p2
        · subst hp
          cases e.det e2
          rw [IsL.det hL hL2, one_self]
          exact .same _
        have l1 := r.length
        have l2 := r2.length
        have m1 := hL.len
        have m2 := hL2.len
        have key : one (.tup ts) (.tup ts2) = ((List.range (min its.toArray.size its2.toArray.size)).all (fun j => one (ts.getD j (.oth .non)) (ts2.getD j (.oth .non))) && its.toArray.size == its2.toArray.size) := by
          rw [Bool.eq_iff_iff, one_iff, Bool.and_eq_true, List.all_eq_true, beq_iff_eq]
          simp only [List.size_toArray]
          constructor
          · intro q
            cases q
            exact ⟨fun j _ => one_self _, by omega⟩
          · rintro ⟨h1, h2⟩
            refine congrArg PV.tup (List.ext_getElem (by omega) fun j g1 g2 => ?_)
            have := one_iff.mp (h1 j (List.mem_range.mpr (by omega)))
            simpa [List.getD, g1, g2] using this
        rw [key]
        refine .of_refs hp (.tuples ht ht2 hu0 fun j h1 h2 => ?_)
        have j1 : j < vs.length := by rw [l1]; simpa using h1
        have j2 : j < vs2.length := by rw [l2]; simpa using h2
        obtain ⟨a1, ea, ia⟩ := hL.get (List.getElem?_eq_getElem j1)
        obtain ⟨b1, eb, ib⟩ := hL2.get (List.getElem?_eq_getElem j2)
        have ga : ts.getD j (.oth .non) = a1 := by simp [List.getD, ea]
        have gb : ts2.getD j (.oth .non) = b1 := by simp [List.getD, eb]
        rw [ga, gb]
        have mA := List.mem_of_getElem? ea
        have tA : Tm a1 := by
          cases ts with
          | nil => simp at ea
          | cons t0 tr =>
            cases t0 with
            | oth _ => exact absurd ta id
            | tup _ => exact absurd ta id
            | str z =>
              rcases List.mem_cons.mp mA with rfl | q
              · trivial
              · exact mem_TmL ta _ q
        have cA := depL_mem mA
        have cT : dep (.tup ts) = 1 + depL ts := rfl
        refine eq_term I n A.in1 (by show A.units + 1 + n < cLine; omega) vs[j] vs2[j] _ _ a1 b1 (by omega) ia tA ib ?_ ?_
        · obtain ⟨q, e1, e2⟩ := Vals.get r (List.getElem?_eq_getElem j1)
          have : its.toArray[j] = q := by
            have h1' : j < its.length := by simpa using h1
            rw [List.getElem?_eq_getElem h1'] at e1
            simpa using Option.some.inj e1
          rw [this]; exact e2
        · obtain ⟨q, e1, e2⟩ := Vals.get r2 (List.getElem?_eq_getElem j2)
          have : its2.toArray[j] = q := by
            have h2' : j < its2.length := by simpa using h2
            rw [List.getElem?_eq_getElem h2'] at e1
            simpa using Option.some.inj e1
          rw [this]; exact e2
/-- x == y, a tuple that is a term and a tuple -/
def rTm : R2 := fun x y H Q => ∃ ts us, Is H x (.tup ts) ∧ Tm (.tup ts) ∧ dep (.tup ts) ≤ 100 ∧ Is H y (.tup us) ∧ ∀ k : Bool, (k = true → ts = us) → Q (.bl k) H
theorem rc_term {X : Cx} {pins : List (Addr × Obj)} {σ : L2.St} {H : Hp} {s : Shared} (I : Inv X pins σ H s) {A : Around} {p p2 : Addr} {ts ts2 : List PV} (hu : A.units + 101 < cLine) (hc : dep (.tup ts) ≤ 100) (ha : Is H (.ref p) (.tup ts)) (ta : Tm (.tup ts)) (hb : Is H (.ref p2) (.tup ts2)) :
    SeqAt.RcAt A s (.ref p) (.ref p2) (one (.tup ts) (.tup ts2)) := by
  cases ha with
  | @tup _ vs _ e hL =>
  cases hb with
  | @tup _ vs2 _ e2 hL2 =>
  obtain ⟨its, r, ht, _⟩ := I.tuple (TupF.sq e)
  obtain ⟨its2, r2, ht2, _⟩ := I.tuple (TupF.sq e2)
  have l1 := r.length
  have l2 := r2.length
  have m1 := hL.len
  have m2 := hL2.len
  have key : one (.tup ts) (.tup ts2) = ((List.range (min its.toArray.size its2.toArray.size)).all (fun j => one (ts.getD j (.oth .non)) (ts2.getD j (.oth .non))) && its.toArray.size == its2.toArray.size) := by
    rw [Bool.eq_iff_iff, one_iff, Bool.and_eq_true, List.all_eq_true, beq_iff_eq]
    simp only [List.size_toArray]
    constructor
    · intro q
      cases q
      exact ⟨fun j _ => one_self _, by omega⟩
    · rintro ⟨h1, h2⟩
      refine congrArg PV.tup (List.ext_getElem (by omega) fun j g1 g2 => ?_)
      have := one_iff.mp (h1 j (List.mem_range.mpr (by omega)))
      simpa [List.getD, g1, g2] using this
  rw [key]
  refine .tuples ht ht2 (by omega) fun j h1 h2 => ?_
  have j1 : j < vs.length := by rw [l1]; simpa using h1
  have j2 : j < vs2.length := by rw [l2]; simpa using h2
  obtain ⟨a1, ea, ia⟩ := hL.get (List.getElem?_eq_getElem j1)
  obtain ⟨b1, eb, ib⟩ := hL2.get (List.getElem?_eq_getElem j2)
  have ga : ts.getD j (.oth .non) = a1 := by simp [List.getD, ea]
  have gb : ts2.getD j (.oth .non) = b1 := by simp [List.getD, eb]
  rw [ga, gb]
  have mA := List.mem_of_getElem? ea
  have tA : Tm a1 := by
    cases ts with
    | nil => simp at ea
    | cons t0 tr =>
      cases t0 with
      | oth _ => exact absurd ta id
      | tup _ => exact absurd ta id
      | str z =>
        rcases List.mem_cons.mp mA with rfl | q
        · trivial
        · exact mem_TmL ta _ q
  have cA := depL_mem mA
  have cT : dep (.tup ts) = 1 + depL ts := rfl
  refine eq_term I 100 A.in1 (by show A.units + 1 + 100 < cLine; omega) vs[j] vs2[j] _ _ a1 b1 (by omega) ia tA ib ?_ ?_
  · obtain ⟨q, e1, e2⟩ := Vals.get r (List.getElem?_eq_getElem j1)
    have : its.toArray[j] = q := by
      have h1' : j < its.length := by simpa using h1
      rw [List.getElem?_eq_getElem h1'] at e1
      simpa using Option.some.inj e1
    rw [this]; exact e2
  · obtain ⟨q, e1, e2⟩ := Vals.get r2 (List.getElem?_eq_getElem j2)
    have : its2.toArray[j] = q := by
      have h2' : j < its2.length := by simpa using h2
      rw [List.getElem?_eq_getElem h2'] at e1
      simpa using Option.some.inj e1
    rw [this]; exact e2
section
variable {X : Cx}
theorem u101 {A : Around} {k : Nat} (r : Room k A) : A.units + 101 < cLine := by have := r.un; omega
theorem op_tm (hu : X.A.units + 101 < cLine) : OpR X (compareOp .Eq) rTm := by
  intro pins s σ H x y v u Q I rx ry h
  obtain ⟨ts, us, ha, ta, hc, hb, q⟩ := h
  obtain ⟨p, _, rfl, _⟩ := ha.tup_inv
  obtain ⟨p2, _, rfl, _⟩ := hb.tup_inv
  cases (show v = Value.ref p from rx)
  cases (show u = Value.ref p2 from ry)
  exact rc_term I hu hc ha ta hb _ _ _ _ ⟨.bl _, H, I, rfl, q _ fun k => PV.tup.inj (one_iff.mp k)⟩
end
/-! ### del xs[:-n] -/
def sel (m : Int) (i : Nat) : Bool := if (1 : Int) > 0 then decide ((0 : Int) ≤ (i : Int)) && decide ((i : Int) < m) && ((i : Int) - 0) % 1 == 0 else decide (m < (i : Int)) && decide ((i : Int) ≤ 0) && ((0 : Int) - i) % (-1) == 0
def keepTo (m : Int) : Array Value → Array Value := fun xs => (xs.toList.zipIdx.filterMap fun (x, k) => if sel m k then none else some x).toArray
theorem sel_eq (m : Nat) (i : Nat) : sel (m : Int) i = decide (i < m) := by
  unfold sel
  rw [if_pos (by decide)]
  have h0 : ((i : Int) - 0) % 1 = 0 := by omega
  rw [h0]
  have h1 : decide ((0 : Int) ≤ (i : Int)) = true := decide_eq_true (by omega)
  have h2 : decide ((i : Int) < (m : Int)) = decide (i < m) := decide_eq_decide.mpr (by omega)
  rw [h1, h2]
  simp
theorem keep_drop {α : Type} (m : Nat) : ∀ (l : List α) (k : Nat), (l.zipIdx k).filterMap (fun (x, i) => if decide (i < m) = true then none else some x) = l.drop (m - k)
  | [], k => by simp
  | x :: r, k => by
    rw [List.zipIdx_cons, List.filterMap_cons]
    have ih := keep_drop m r (k + 1)
    by_cases h : k < m
    · simp only [decide_eq_true h, if_true]
      rw [ih, show m - k = (m - (k + 1)) + 1 from by omega, List.drop_succ_cons]
    · have h' : decide (k < m) = false := decide_eq_false h
      simp only [h', Bool.false_eq_true, if_false]
      rw [ih, show m - k = 0 from by omega, show m - (k + 1) = 0 from by omega]
      rfl
theorem keepTo_eq (m : Nat) (its : List Value) : keepTo (m : Int) its.toArray = (its.drop m).toArray := by
  unfold keepTo
  congr 1
  have := keep_drop m its 0
  simp only [Nat.sub_zero] at this
  rw [← this]
  simp only [sel_eq]
theorem bounds_to {n len : Nat} : sliceBounds none (some (-(n + 1 : Nat) : Int)) none len = ((0 : Int), ((len - (n + 1) : Nat) : Int), 1) := by
  simp only [sliceBounds, Option.getD_none]
  simp only [show (1 : Int) > 0 by decide, if_true]
  have h1 : (-((n + 1 : Nat) : Int)) < 0 := by omega
  simp only [h1, if_true]
  congr 2
  omega
section
variable {prog : Program} {w : World} {A : Around} {E : Value → Shared → Prop} {s : Shared}
theorem delItem_to {l sl : Addr} {items : Array Value} {n k : Nat} {vu : Value} {Q : Unit → Shared → Prop}
    (e : s.heap.get? l = some { cls := .type "list", data := .seq items n }) (hs : s.heap.IsSliceOf sl .none vu .none) (pu : IsPart vu (some (-(k + 1 : Nat) : Int)))
    (hsz : items.size ≤ sizeLine) (h : Q () { s with heap := s.heap.update l (Obj.mapSeq (keepTo ((items.size - (k + 1) : Nat) : Int))) }) :
    wpAny (model prog w) A (delItem (.ref l) (.ref sl)) Q E s := by
  have hl : s.heap.IsList l items := PySem.IsL.isList e
  obtain ⟨os, hos, hcs, hds⟩ := id hs
  have hTs : s.TypeIs (.ref sl) "slice" := ⟨os, hos, hcs⟩
  have hstep : ¬ ((rawPart none == rawInt 0) = true) := Bool.false_ne_true
  have hz' : (keepTo ((items.size - (k + 1) : Nat) : Int) items).size ≤ sizeLine + 1 := by
    have := keepTo_eq (items.size - (k + 1)) items.toList
    rw [Array.toArray_toList] at this
    rw [this, List.size_toArray, List.length_drop, Array.length_toList]
    omega
  refine wpAny_delItem_slot hl.typeIs (by decide) PySem.F.slot_list_delitem (wpAny_call_entry PySem.F.slot_list_delitem hl.typeIs PySem.F.entry_list_delitem ?_ (PySem.F.args_list_delitem_2 _ _))
  show wpAny _ _ (Builtin.List.listSubscript? (.ref sl) >>= _) _ _ s
  refine wpAny_bind ?_
  unfold Builtin.List.listSubscript?
  refine wpAny_bind (wpAny_specialOf hTs slice_no_index ?_)
  simp only [Option.isNone_none, if_true]
  refine wpAny_pure ?_
  show wpAny _ _ (typeOf (.ref sl) >>= _) _ _ s
  refine wpAny_bind (wpAny_typeOf hTs ?_)
  first
    | rw [if_neg (by decide)]
    | refine PySem.W.KFB.if_not (by decide) ?_
  rw [listSliceParts_eq]
  refine wpAny_bind (wpAny_bind (wpAny_field hos hds (x := .none) rfl (wpAny_bind (wpAny_listPart .none ?_))))
  rw [if_neg hstep]
  refine wpAny_bind (wpAny_field hos hds (x := .none) rfl (wpAny_bind (wpAny_listPart .none ?_)))
  refine wpAny_bind (wpAny_field hos hds (x := vu) rfl (wpAny_bind (wpAny_listPart pu (wpAny_pure ?_))))
  show wpAny _ _ (Builtin.List.listItems (.ref l) >>= _) _ _ s
  unfold Builtin.List.listItems
  refine wpAny_bind (wpAny_bind (wpAny_seqItems e rfl (wpAny_pure ?_)))
  refine wpAny_bind (wpAny_of_eq ((sliceIndices_raw none (some (-(k + 1 : Nat) : Int)) none items.size (by simp)).trans (congrArg (pure : Int × Int × Int → Sem (Int × Int × Int)) bounds_to)) ?_)
  refine wpAny_bind (wpAny_rule ?_)
  show wpAny _ _ (updateSeq l (keepTo ((items.size - (k + 1) : Nat) : Int)) >>= _) _ _ s
  refine wpAny_bind (wpAny_updateSeq (hz := hsz) (_hz' := hz') e rfl ?_)
  refine wpAny_bind (wpAny_letGo ?_)
  first
    | exact wpAny_pure ⟨.none, rfl, h⟩
    | exact wpAny_bind (wpAny_pure (wpAny_pure ⟨.none, rfl, h⟩))
    | exact wpAny_pure ⟨.none, rfl, wpAny_pure h⟩
end
section
variable {X : Cx}
theorem del_to {pins : List (Addr × Obj)} {s : Shared} {σ : L2.St} {H : Hp} {l sl : Addr} {xs : List V} {k : Nat} {vu : Value} {Q : Unit → Shared → Prop} (I : Inv X pins σ H s) (hH : H l = some (.lst xs))
    (hs : s.heap.IsSliceOf sl .none vu .none) (pu : IsPart vu (some (-(k + 1 : Nat) : Int))) (h : ∀ s', Inv X pins σ (upd H l (.lst (xs.drop (xs.length - (k + 1))))) s' → Q () s') :
    wpAny (model X.prog X.w) X.A (delItem (.ref l) (.ref sl)) Q X.xe s := by
  obtain ⟨z, its, n, r, hl, e⟩ := I.lstM hH
  refine delItem_to (k := k) e hs pu (by rw [List.size_toArray]; omega) (h _ ?_)
  refine I.lset (its' := its.drop (its.length - (k + 1))) (t' := s.toks) hH e ?_ ?_ ?_
  · rw [List.size_toArray]; exact keepTo_eq _ its
  · rw [← hl]; exact r.drop _
  · rw [List.length_drop]; omega
/-- del o[:i] of a list, i below zero -/
def tDelTo (to ti : TE) : TS := fun D σ H => to σ H fun x H1 => tPart ti σ H1 fun o H2 => ∃ (l : Addr) (xs : List V) (k : Nat), x = .ref l ∧ o = some (-(k + 1 : Nat) : Int) ∧ H2 l = some (.lst xs) ∧ D.nx σ (upd H2 l (.lst (xs.drop (xs.length - (k + 1)))))
theorem ps_delTo {o i : Expr} {to ti : TE} {p3 tpos pos : Pos} (ho : PE X o to) (hi : PE X i ti) : PS X (.Delete [.Subscript o (.Slice none (some i) none p3) tpos] pos) (tDelTo to ti) := by
  refine ⟨fun pins s σ H D I h => ?_⟩
  refine wpAny_Delete (wpAny_deleteEach_cons (wpAny_delete_Subscript (thn (ho.run pins s σ H _ I h) fun u s1 ⟨x, H1, I1, rx, q1⟩ => ?_)))
  refine wpAny_Slice (thn (po_none.run pins s1 σ H1 (fun o H2 => o = none ∧ H2 = H1) I1 ⟨rfl, rfl⟩) fun vl s2 ⟨a, H2, I2, pl, el, e2⟩ => ?_)
  subst el e2
  refine thn ((po_some hi).run pins s2 σ H2 (fun o H3 => ∃ (l : Addr) (xs : List V) (k : Nat), x = .ref l ∧ o = some (-(k + 1 : Nat) : Int) ∧ H3 l = some (.lst xs) ∧ D.nx σ (upd H3 l (.lst (xs.drop (xs.length - (k + 1)))))) I2 q1) fun vu s3 ⟨b, H3, I3, pu, l, xs, k, ex, eb, hH, q⟩ => ?_
  refine thn (po_none.run pins s3 σ H3 (fun o H4 => o = none ∧ H4 = H3) I3 ⟨rfl, rfl⟩) fun vs s4 ⟨c, H4, I4, ps, ec, e4⟩ => ?_
  subst ec e4 ex eb
  cases (show u = Value.ref l from rx)
  have I5 : Inv X pins σ H4 { s4 with heap := s4.heap.push { cls := .type "slice", data := .fields #[vl, vu, vs] } } := I4.kept (t' := s4.toks) fun b ob q => Heap.get?_push_of_some _ q
  have hs := Heap.IsSliceOf.new s4.heap vl vu vs
  cases pl
  cases ps
  exact del_to I5 hH hs pu fun s' I' => wpAny_deleteEach_nil ⟨σ, _, I', q⟩
end
/-! ### any data, and a text; any data, and texts -/
theorem str_ne_declines_dict (b : Str) (u : Tok) (l : Addr) (c : Value) (es : Array DictEntry) (n : Nat) (dd : Option Addr) (sl : Array (Option Value)) :
    Meets (Builtin.«str.__ne__» ⟨[.str b u, .ref l], []⟩) (fun _ R s => s.heap.get? l = some { cls := c, dict := dd, data := .dict es n, slots := sl } ∧ R (.ok (.ret .notImplemented)) s) :=
  .of_wp fun prog w A R s h => by obtain ⟨hp, g, d, tk, os⟩ := s; obtain ⟨hl, h⟩ := h; wp_walk using wpAny_loadPart' hl, wpAny_load hl; exact ⟨_, rfl, h⟩
section
variable {prog : Program} {w : World} {A : Around} {E : Value → Shared → Prop} {s : Shared}
theorem dict_ne_declines {b : Addr} {v : Value} {T : String} {Q : Value → Shared → Prop} (hb : s.TypeIs (.ref b) "dict") (hv : s.TypeIs v T) (hs : isSubtype (.type T) (.type "dict") = pure false) (h : Q .notImplemented s) :
    wpAny (model prog w) A (call (.builtin "dict.__ne__") [.ref b, v]) Q E s := by
  refine wpAny_call_entry PySem.F.slot_dict_ne hb PySem.F.entry_dict_ne ?_ (PySem.F.args_dict_ne_2 _ _)
  show wpAny _ _ (Builtin.Dict.dictSlotArgs "__ne__" ⟨[.ref b, v], []⟩ >>= _) _ _ s
  refine wpAny_bind ?_
  unfold Builtin.Dict.dictSlotArgs
  refine wpAny_bind (wpAny_notOrdered_dict hb ?_)
  show wpAny _ _ (pure (Value.ref b, v)) _ _ s
  refine wpAny_pure ?_
  refine wpAny_bind (wpAny_isInstance (T := T) hv hs ?_)
  simp only [Bool.not_false, if_true]
  refine wpAny_bind (wpAny_rule (wpAny_bind (wpAny_pure (wpAny_pure ⟨_, rfl, h⟩))))
end
theorem ne_dict_str {A : Around} {s : Shared} {a : Addr} (e : DictAt s a) (b : Str) (u : Tok) (hu : A.units < cLine) : SeqAt.RcNeAt A s (.ref a) (.str b u) true := fun prog w E Q h => by
  obtain ⟨es, n, dd, sl, ha⟩ := id e
  exact SeqAt.rc_ne_decline_or (k := false) e.typeIs (typeIs_str s b u) (by decide) PySem.F.sub_str_dict PySem.F.slot_dict_ne PySem.F.slot_str_ne_refl
    (fun _ hq => dict_ne_declines e.typeIs (typeIs_str s b u) PySem.F.sub_str_dict hq)
    (fun _ hq => call_meets PySem.F.slot_str_ne (typeIs_str s b u) PySem.F.entry_str_ne (PySem.F.args_str_ne_2 _ _) (str_ne_declines_dict b u a (.type "dict") es n dd sl) ⟨ha, hq⟩)
    (fun _ hq => wpAny_of_eq (rfl : isSame (.ref a) (.str b u) = pure false) hq) (.inr hu) h
/-- is it this text -/
def isZ (z : Str) : PV → Bool
  | .str y => y == z
  | _ => false
/-- is it one of these texts -/
def inZ (ws : List Str) : PV → Bool
  | .str y => decide (y ∈ ws)
  | _ => false
theorem one_z (z : Str) (t : PV) : one (.str z) t = isZ z t := by
  cases t with
  | str y =>
    by_cases h : y = z
    · subst h; simp [isZ, one_self]
    · rw [one_ne fun e => h (PV.str.inj e).symm]; simp [isZ, h]
  | oth _ => rw [one_ne fun e => by cases e]; rfl
  | tup _ => rw [one_ne fun e => by cases e]; rfl
theorem any_z (t : PV) : ∀ ws : List Str, ws.any (fun w => one (.str w) t) = inZ ws t
  | [] => by cases t <;> simp [inZ]
  | w :: r => by
    rw [List.any_cons, any_z t r, one_z]
    cases t with
    | str y =>
      by_cases h : y = w
      · simp [isZ, inZ, h]
      · simp [isZ, inZ, h]
    | oth _ => rfl
    | tup _ => rfl
def rNeZ : R2 := fun x y H Q => ∃ t z, y = .str z ∧ Is H x t ∧ Q (.bl (!isZ z t)) H
theorem op_neZ {X : Cx} (hu : X.A.units < cLine) : OpR X (compareOp .NotEq) rNeZ := by
  intro pins s σ H x y v u Q I rx ry h
  obtain ⟨t, z, rfl, hI, q⟩ := h
  obtain ⟨tk, rfl⟩ := (show ∃ t, u = Value.str z t from ry)
  have fin : ∀ {b : Bool}, SeqAt.RcNeAt X.A s v (.str z tk) b → b = !isZ z t → wpAny (model X.prog X.w) X.A (compareOp .NotEq v (.str z tk)) (EP X pins σ Q) X.xe s := fun {b} r e => r _ _ _ _ ⟨.bl b, H, I, rfl, e ▸ q⟩
  cases hI with
  | str y ok =>
    obtain ⟨t1, rfl⟩ := (show ∃ t, v = Value.str y t from rx)
    exact fin (.str_str y t1 z tk) rfl
  | non =>
    cases (show v = Value.none from rx)
    exact fin (.none_str z tk) rfl
  | bl b =>
    cases (show v = Value.bool b from rx)
    exact fin (.bool_str b z tk) rfl
  | int i =>
    obtain ⟨t1, rfl⟩ := (show ∃ t, v = Value.int i t from rx)
    exact fin (.int_str i t1 z tk) rfl
  | lst e =>
    obtain ⟨xs, e⟩ := e
    cases (show v = Value.ref _ from rx)
    obtain ⟨us, r1, p1, _⟩ := I.list (SqL.of e)
    exact fin (.list_str z tk p1.isList hu) rfl
  | dict e =>
    cases (show v = Value.ref _ from rx)
    exact fin (ne_dict_str (dictAt I e) z tk hu) rfl
  | tup e h =>
    cases (show v = Value.ref _ from rx)
    obtain ⟨its, r, ht, _⟩ := I.tuple (TupF.sq e)
    exact fin (.tuple_str z tk ht hu) rfl
theorem texts_at {P : Program} {w : World} : ∀ {zs : List Str} {its : List Value}, Vals (zs.map V.str) its → ∀ y ∈ its, ∃ z u, z ∈ zs ∧ y = Value.str z u
  | [], its, r, y, hy => by
    have := r.length
    cases its with
    | nil => cases hy
    | cons _ _ => simp at this
  | z :: zs, its, r, y, hy => by
    cases r with
    | cons h r =>
      rcases List.mem_cons.mp hy with rfl | hy
      · obtain ⟨u, e⟩ := (show ∃ t, _ = Value.str z t from h)
        exact ⟨z, u, List.mem_cons_self .., e⟩
      · obtain ⟨z', u, m, e⟩ := texts_at (P := P) (w := w) r y hy
        exact ⟨z', u, List.mem_cons_of_mem _ m, e⟩
noncomputable def eqT (t : PV) : Value → Bool
  | .str z _ => one (.str z) t
  | _ => false
theorem any_at (t : PV) : ∀ {zs : List Str} {its : List Value}, Vals (zs.map V.str) its → its.any (eqT t) = zs.any (fun w => one (.str w) t)
  | [], its, r => by
    have := r.length
    cases its with
    | nil => rfl
    | cons _ _ => simp at this
  | z :: zs, its, r => by
    cases r with
    | cons h r =>
      obtain ⟨u, e⟩ := (show ∃ t, _ = Value.str z t from h)
      subst e
      rw [List.any_cons, List.any_cons, any_at t r]
      rfl
def rNotInZ (K : PySem.W.Frag) : R2 := fun x y H Q => ∃ (p : Addr) (t : PV) (ws : List Str), y = .ref p ∧ SqT K H p (ws.map V.str) ∧ (∀ z ∈ ws, sok z = true) ∧ Is H x t ∧ Q (.bl (!inZ ws t)) H
theorem notInZ {X : Cx} (hu : X.A.units + 101 < cLine) : OpR X (compareOp .NotIn) (rNotInZ X.K) := by
  intro pins s σ H x y v u Q I rx ry h
  obtain ⟨p, t, ws, rfl, hS, ok, hI, q⟩ := h
  cases (show u = Value.ref p from ry)
  obtain ⟨its, r, ht, _⟩ := I.tuple hS
  refine SeqAt.notIn_tupleAt (eqT t) ht (fun y hy => ?_) ?_
  · obtain ⟨z, tk, hz, rfl⟩ := texts_at (P := X.prog) (w := X.w) r y (by simpa using hy)
    exact eq_term I 1 X.A.in1 (by show X.A.units + 1 + 1 < cLine; omega) (.str z) x _ _ (.str z) t (Nat.le_refl 1) (.str z (ok z hz)) trivial hI ⟨tk, rfl⟩ rx
  · have e : its.toArray.any (eqT t) = inZ ws t := by
      rw [List.any_toArray, any_at t r, any_z]
    rw [e]
    exact ⟨.bl _, H, I, rfl, q⟩
end Kx
namespace Kx
open PySem PySem.Spec PyProof.Rows L2
section
variable {P : Program} {w : World} {K : PySem.W.Frag} {mg : Str → Option Value} {base : Heap}
/-! ### what is kept -/
/-- all but lists and dicts stands -/
def Tu (H H' : Hp) : Prop := ∀ b o, H b = some o → (∀ xs, o ≠ .lst xs) → (∀ kvs, o ≠ .dK kvs) → H' b = some o
theorem Tu.refl (H : Hp) : Tu H H := fun _ _ h _ _ => h
theorem Tu.trans {H H1 H2 : Hp} (a : Tu H H1) (b : Tu H1 H2) : Tu H H2 := fun c o e h1 h2 => b c o (a c o e h1 h2) h1 h2
theorem Tu.of {H H1 : Hp} (s : Same H H1) : Tu H H1 := fun c o e _ _ => s c o e
theorem Tu.lst {H : Hp} {l : Addr} {xs : List V} (h : H l = some (.lst xs)) (ys : List V) : Tu H (upd H l (.lst ys)) := fun b o e h1 _ => by
  by_cases q : b = l
  · subst q; rw [h] at e; exact absurd (Option.some.inj e).symm (h1 xs)
  · rw [upd_ne q]; exact e
theorem Tu.dict {H : Hp} {l : Addr} {xs : List (Key × V)} (h : H l = some (.dK xs)) (ys : List (Key × V)) : Tu H (upd H l (.dK ys)) := fun b o e _ h1 => by
  by_cases q : b = l
  · subst q; rw [h] at e; exact absurd (Option.some.inj e).symm (h1 xs)
  · rw [upd_ne q]; exact e
theorem valV_mem {kvs : List (Key × V)} {k : Key} {v : V} (h : valV kvs k = some v) : (k, v) ∈ kvs := by
  unfold valV at h
  cases e : kvs.find? (fun kv => decide (kv.1 = k)) with
  | none => rw [e] at h; cases h
  | some kv =>
    rw [e] at h
    have h1 := List.find?_some e
    have h2 := List.mem_of_find?_eq_some e
    have h3 : kv.1 = k := of_decide_eq_true h1
    have h4 : kv.2 = v := Option.some.inj h
    rw [← h3, ← h4]; exact h2
/-- what stands for a result, for a tree's items -/
abbrev ResT := Hp → V → List PV → Prop
def Stable (R : ResT) : Prop := ∀ H H' v ts, Tu H H' → R H v ts → R H' v ts
def PairOk (R : ResT) (H0 H : Hp) (x : V) : Prop := ∃ p v r ts, x = .ref p ∧ H p = some (.tup [v, r]) ∧ Is H0 v (.tup ts) ∧ Tm (.tup ts) ∧ dep (.tup ts) ≤ 100 ∧ R H r ts
structure RowOk (W : List Str) (R : ResT) (H0 H : Hp) (kv : Key × V) : Prop where
  key : ∃ w, kv.1 = Sum.inr w ∧ w ∈ W
  row : ∃ r xs, kv.2 = .ref r ∧ H0 r = none ∧ H r = some (.lst xs) ∧ xs.length ≤ 32 ∧ ∀ x ∈ xs, PairOk R H0 H x
structure KeptAt (C : Addr) (W : List Str) (R : ResT) (H0 H : Hp) (ko : Addr) : Prop where
  at_ : ∃ dx d kvs, H ko = some (.ins C dx [("rows", .ref d)]) ∧ H d = some (.dK kvs) ∧ H0 d = none ∧ (kvs.map (·.1)).Nodup ∧ ∀ kv ∈ kvs, RowOk W R H0 H kv
/-- its own dict and lists -/
def Own (H : Hp) (ko b : Addr) : Prop := ∃ C dx d, H ko = some (.ins C dx [("rows", .ref d)]) ∧ (b = d ∨ ∃ kvs, H d = some (.dK kvs) ∧ ∃ kv ∈ kvs, kv.2 = .ref b)
/-- all but its own stands -/
structure Fr (ko : Addr) (H H' : Hp) : Prop where
  tu : Tu H H'
  keep : ∀ b o, H b = some o → ¬ Own H ko b → H' b = some o
  own : ∀ b, Own H' ko b → Own H ko b ∨ H b = none
theorem Fr.refl (ko : Addr) (H : Hp) : Fr ko H H := ⟨.refl H, fun _ _ h _ => h, fun _ h => .inl h⟩
theorem Fr.trans {ko : Addr} {H H1 H2 : Hp} (a : Fr ko H H1) (b : Fr ko H1 H2) : Fr ko H H2 := by
  refine ⟨a.tu.trans b.tu, fun c o e n => b.keep c o (a.keep c o e n) fun q => ?_, fun c q => ?_⟩
  · rcases a.own c q with z | z
    · exact n z
    · rw [e] at z; cases z
  · rcases b.own c q with z | z
    · exact a.own c z
    · cases e : H c with
      | none => exact .inr rfl
      | some o =>
        refine .inl (Classical.byContradiction fun n => ?_)
        have := a.keep c o e n
        rw [z] at this; cases this
theorem Own.same {H H' : Hp} {ko b : Addr} (s : Same H H') (h : Own H ko b) : Own H' ko b := by
  obtain ⟨C, dx, d, e, q⟩ := h
  refine ⟨C, dx, d, s _ _ e, ?_⟩
  rcases q with q | ⟨kvs, e2, q⟩
  · exact .inl q
  · exact .inr ⟨kvs, s _ _ e2, q⟩
theorem Own.back {C : Addr} {W : List Str} {R : ResT} {H0 H H' : Hp} {ko b : Addr} (s : Same H H') (k : KeptAt C W R H0 H ko) (h : Own H' ko b) : Own H ko b := by
  obtain ⟨dx, d, kvs, e1, e2, _⟩ := k
  obtain ⟨C', dx', d', f1, q⟩ := h
  rw [s _ _ e1] at f1
  cases f1
  refine ⟨_, _, d, e1, ?_⟩
  rcases q with q | ⟨kvs', f2, q⟩
  · exact .inl q
  · rw [s _ _ e2] at f2
    cases f2
    exact .inr ⟨kvs, e2, q⟩
theorem Own.there {C : Addr} {W : List Str} {R : ResT} {H0 H : Hp} {ko b : Addr} (k : KeptAt C W R H0 H ko) (h : Own H ko b) : H b ≠ none := by
  obtain ⟨dx, d, kvs, e1, e2, _, _, h5⟩ := k
  obtain ⟨C', dx', d', f1, q⟩ := h
  rw [e1] at f1
  cases f1
  rcases q with q | ⟨kvs', f2, kv, m, q⟩
  · rw [q, e2]; simp
  · rw [e2] at f2
    cases f2
    obtain ⟨_, r, xs, g, _, g2, _⟩ := h5 kv m
    rw [g] at q
    cases q
    rw [g2]; simp
theorem Own.of {C : Addr} {W : List Str} {R : ResT} {H0 H : Hp} {ko b : Addr} {o : HO} (k : KeptAt C W R H0 H ko) (h : H b = some o) (n1 : ∀ xs, o ≠ .lst xs) (n2 : ∀ kvs, o ≠ .dK kvs) : ¬ Own H ko b := fun q => by
  obtain ⟨dx, d, kvs, e1, e2, _, _, h5⟩ := k
  obtain ⟨C', dx', d', f1, q⟩ := q
  rw [e1] at f1
  cases f1
  rcases q with q | ⟨kvs', f2, kv, m, q⟩
  · rw [q, e2] at h; exact n2 _ (Option.some.inj h).symm
  · rw [e2] at f2
    cases f2
    obtain ⟨_, r, xs, g, _, g2, _⟩ := h5 kv m
    rw [g] at q
    cases q
    rw [g2] at h; exact n1 _ (Option.some.inj h).symm
theorem Fr.of {C : Addr} {W : List Str} {R : ResT} {H0 H H' : Hp} {ko : Addr} (s : Same H H') (k : KeptAt C W R H0 H ko) : Fr ko H H' := ⟨.of s, fun b o e _ => s b o e, fun b q => .inl (q.back s k)⟩
theorem PairOk.tu {R : ResT} {H0 H H' : Hp} {x : V} (st : Stable R) (t : Tu H H') (h : PairOk R H0 H x) : PairOk R H0 H' x := by
  obtain ⟨p, v, r, ts, e, hp, a, b, c, d⟩ := h
  exact ⟨p, v, r, ts, e, t _ _ hp (fun _ q => by cases q) (fun _ q => by cases q), a, b, c, st _ _ _ _ t d⟩
theorem RowOk.step {W : List Str} {R : ResT} {H0 H H' : Hp} {kv : Key × V} (h : RowOk W R H0 H kv) (hl : ∀ r xs, H0 r = none → H r = some (.lst xs) → xs.length ≤ 32 → (∀ x ∈ xs, PairOk R H0 H x) → ∃ ys, H' r = some (.lst ys) ∧ ys.length ≤ 32 ∧ ∀ x ∈ ys, PairOk R H0 H' x) : RowOk W R H0 H' kv := by
  obtain ⟨k, r, xs, e, h0, h1, h2, h3⟩ := h
  obtain ⟨ys, g1, g2, g3⟩ := hl r xs h0 h1 h2 h3
  exact ⟨k, r, ys, e, h0, g1, g2, g3⟩
theorem RowOk.same {W : List Str} {R : ResT} {H0 H H' : Hp} {kv : Key × V} (st : Stable R) (s : Same H H') (h : RowOk W R H0 H kv) : RowOk W R H0 H' kv :=
  h.step fun r xs _ h1 h2 h3 => ⟨xs, s _ _ h1, h2, fun x hx => (h3 x hx).tu st (.of s)⟩
theorem KeptAt.same {C : Addr} {W : List Str} {R : ResT} {H0 H H' : Hp} {ko : Addr} (st : Stable R) (s : Same H H') (h : KeptAt C W R H0 H ko) : KeptAt C W R H0 H' ko := by
  obtain ⟨dx, d, kvs, h1, h2, h3, h4, h5⟩ := h
  exact ⟨dx, d, kvs, s _ _ h1, s _ _ h2, h3, h4, fun kv m => (h5 kv m).same st s⟩
/-- a list that is not its own is written -/
theorem KeptAt.own {C : Addr} {W : List Str} {R : ResT} {H0 H : Hp} {ko l : Addr} {xs : List V} (st : Stable R) (h : KeptAt C W R H0 H ko) (e : H l = some (.lst xs)) (n : ¬ Own H ko l) (ys : List V) : KeptAt C W R H0 (upd H l (.lst ys)) ko := by
  have t := Tu.lst e ys
  obtain ⟨dx, d, kvs, h1, h2, h3, h4, h5⟩ := id h
  have nd : d ≠ l := fun z => n ⟨_, _, d, h1, .inl z.symm⟩
  refine ⟨dx, d, kvs, t _ _ h1 (fun _ z => by cases z) (fun _ z => by cases z), by rw [upd_ne nd]; exact h2, h3, h4, fun kv m => ?_⟩
  obtain ⟨k, r, xs', e1, e0, e2, e3, e4⟩ := h5 kv m
  have nr : r ≠ l := fun z => n ⟨_, _, d, h1, .inr ⟨kvs, h2, kv, m, by rw [e1, z]⟩⟩
  exact ⟨k, r, xs', e1, e0, by rw [upd_ne nr]; exact e2, e3, fun x hx => (e4 x hx).tu st t⟩
theorem few_rows {W : List Str} {R : ResT} {H0 H : Hp} {kvs : List (Key × V)} (nd : (kvs.map (·.1)).Nodup) (h : ∀ kv ∈ kvs, RowOk W R H0 H kv) : kvs.length ≤ W.length := by
  have s : kvs.map (·.1) ⊆ W.map (fun w => (Sum.inr w : Key)) := by
    intro k hk
    obtain ⟨kv, m, rfl⟩ := List.mem_map.mp hk
    obtain ⟨w, e, hw⟩ := (h kv m).key
    rw [e]
    exact List.mem_map.mpr ⟨w, hw, rfl⟩
  have := nd.length_le_of_subset s
  simpa using this
/-! ### the methods -/
def spKInit (C : Addr) : Sp := fun vs H Q _ => ∃ (x dx : Addr), vs = [.ref x] ∧ H x = some (.ins C dx []) ∧ ∀ d, H d = none → Q .non (upd (upd H d (.dK [])) x (.ins C dx [("rows", .ref d)]))
def spKPair (C : Addr) : Sp := fun vs H Q _ => ∃ (ko a : Addr) (w : Str) (us : List V) (ts : List PV) (W : List Str) (R : ResT) (H0 : Hp), vs = [.ref ko, .ref a] ∧ Stable R ∧ Same H0 H ∧ KeptAt C W R H0 H ko ∧ TupF H0 a (.str w :: us) ∧ Is H0 (.ref a) (.tup (.str w :: ts)) ∧
  ∀ e, H e = none → Q .non (upd H e (.lst [])) ∧ ∀ p v r, upd H e (.lst []) p = some (.tup [v, r]) → R (upd H e (.lst [])) r (.str w :: ts) → Q (.ref p) (upd H e (.lst []))
def spKKeep (C : Addr) : Sp := fun vs H Q _ => ∃ (ko a : Addr) (rv : V) (w : Str) (us : List V) (ts : List PV) (W : List Str) (R : ResT) (H0 : Hp), vs = [.ref ko, .ref a, rv] ∧ Stable R ∧ Same H0 H ∧ KeptAt C W R H0 H ko ∧ W.length ≤ 20 ∧ TupF H0 a (.str w :: us) ∧ Is H0 (.ref a) (.tup (.str w :: ts)) ∧ w ∈ W ∧ Tm (.tup (.str w :: ts)) ∧ dep (.tup (.str w :: ts)) ≤ 100 ∧ R H rv (.str w :: ts) ∧
  ∀ H', Same H0 H' → Fr ko H H' → KeptAt C W R H0 H' ko → Q .non H'
theorem ok_Kept_init (T : Txt K mg)  : FnOk P w K mg base CX0 1 T.a_Kept_init T.d_Kept_init ["self"] (spKInit T.c_Kept) := by
  refine T.F_Kept_init.ok sc_Kept_init (fun vs H Q E h => ?_) (fun cdv A outer s H vs Q E hr h => ?_)
  · obtain ⟨x, dx, rfl, _⟩ := h; rfl
  · obtain ⟨x, dx, rfl, ex, q⟩ := h
    refine ⟨_, (pss_one (ps_fld (pv 0) pe_dnewK rfl)), ?_⟩
    intro d hd
    exact ⟨_, rfl, x, _, dx, [], rfl, (by rw [upd_ne (ne_of_none ex hd)]; exact ex), T.cl_Kept, T.no_Kept_rows, (by decide), q d hd⟩
theorem ok_Kept_pair_of (T : Txt K mg)  : FnOk P w K mg base CX0 1 T.a_Kept_pair_of T.d_Kept_pair_of ["self", "tree"] (spKPair T.c_Kept) := by
  refine T.F_Kept_pair_of.ok sc_Kept_pair_of (fun vs H Q E h => ?_) (fun cdv A outer s H vs Q E hr h => ?_)
  · obtain ⟨ko, a, w, us, ts, W, R, H0, rfl, _⟩ := h; rfl
  · obtain ⟨ko, a, w, us, ts, W, R, H0, rfl, st, s0, hK, ea, hI, q⟩ := h
    have hu := hu_of hr
    refine ⟨_, (pss_cons (ps_for PassesOwn.never rfl (RT.pi_revA (by rfl) T.z_reversed (pe_dget2 hu (pe_fld (pv 0) rfl) (pe_ix ix_tup (pv 1) pe_int (fun _ _ => rfl)) (pe_lst pa_nil) ⟨rfl, rfl, rfl, rfl⟩)) (pg_name (i := 2) sc_Kept_pair_of.nd rfl (Or.inl rfl))
    (pss_one (ps_if (pt_cmpR (op_tm (u101 hr)) (pe_ix ix_tup (pv 2) pe_int (fun _ _ => rfl)) (pv 1) (nomark _)) (pss_one (ps_ret (pv 2))) pss_nil)))
    (pss_one (ps_ret pe_non))), ?_⟩
    obtain ⟨dx, d, kvs, h1, h2, h3, h4, h5⟩ := id hK
    refine ⟨_, rfl, ko, _, dx, _, _, rfl, h1, T.cl_Kept, T.no_Kept_rows, rfl, d, rfl, .inl ⟨_, .of h2⟩, _, rfl, a, _, _, _, rfl, rfl, (ea.same s0).sq, atI_nat (j := 0) rfl, ?_⟩
    refine ⟨by decide, fun e he => ?_⟩
    obtain ⟨q1, q2⟩ := q e he
    have se := same_upd he (.lst [])
    refine ⟨valV kvs (Sum.inr w), DGet.k (k := Sum.inr w) (se _ _ h2), ?_⟩
    have key : ∃ r xs, (valV kvs (Sum.inr w)).getD (.ref e) = .ref r ∧ upd H e (.lst []) r = some (.lst xs) ∧ ∀ x ∈ xs, PairOk R H0 (upd H e (.lst [])) x := by
      cases hv : valV kvs (Sum.inr w) with
      | none => exact ⟨e, [], rfl, upd_same, fun x hx => absurd hx (by simp)⟩
      | some v =>
        obtain ⟨_, r, xs, e1, _, e2, _, e3⟩ := (h5 _ (valV_mem hv)).same st se
        exact ⟨r, xs, e1, e2, e3⟩
    obtain ⟨r, xs, er, exs, hxs⟩ := key
    refine ⟨r, xs, er, .inl ⟨SqL.of exs, ?_⟩⟩
    refine RT.for_Itv (K := K) (a := r) (xs := xs) (fun i σ H2 => ∃ y, σ = [some (.ref ko), some (.ref a), y] ∧ H2 = upd H e (.lst [])) ⟨_, rfl, rfl⟩ (fun i σ H2 ⟨_, _, h⟩ => by rw [h]; exact SqL.of exs) ?_ ?_
    · rintro i x σ H2 hi hx ⟨y, rfl, rfl⟩
      obtain ⟨p, v, rv, us', ex, hp, hv, hf, hc, hR⟩ := hxs x (List.mem_of_getElem? hx)
      subst ex
      refine ⟨_, rfl, p, _, _, _, rfl, rfl, .inl (.inl hp), atI_nat (j := 0) rfl, _, rfl, us', _, hv.same (s0.trans se), hf, hc, hI.same (s0.trans se), fun k hk => ⟨_, rfl, ?_⟩⟩
      cases k with
      | true =>
        refine iteT ?_
        have e1 := hk rfl
        rw [e1] at hR
        exact ⟨_, rfl, q2 p v rv hp hR⟩
      | false => exact iteF ⟨_, rfl, rfl⟩
    · rintro σ H2 ⟨y, rfl, rfl⟩
      exact q1
theorem ok_Kept_keep (T : Txt K mg)  : FnOk P w K mg base CX0 1 T.a_Kept_keep T.d_Kept_keep ["self", "tree", "result"] (spKKeep T.c_Kept) := by
  refine T.F_Kept_keep.ok sc_Kept_keep (fun vs H Q E h => ?_) (fun cdv A outer s H vs Q E hr h => ?_)
  · obtain ⟨ko, a, rv, w, us, ts, W, R, H0, rfl, _⟩ := h; rfl
  · obtain ⟨ko, a, rv, w, us, ts, W, R, H0, rfl, st, s0, hK, m5, ea, hI, hw, hf, hc, hR, q⟩ := h
    have hu := hu_of hr
    refine ⟨_, (pss_cons (ps_set (i := 3) sc_Kept_keep.nd rfl (Or.inl rfl) (pe_dsetd (pe_fld (pv 0) rfl) (pe_ix ix_tup (pv 1) pe_int (fun _ _ => rfl)) (pe_lst pa_nil) ⟨rfl, rfl, rfl, rfl⟩))
    (pss_cons (ps_expr (pe_bm PySem.F.plainAttrs_list PySem.F.slot_list_append PySem.F.type_list_append mt_append (pv 3) (pa_cons (pe_tup (pa_cons (pv 1) (pa_cons (pv 2) pa_nil))) pa_nil)))
    (pss_one (ps_delTo (pv 3) (pe_un un_neg (pe_glob (by rfl) T.g_MOST_KEPT (show RelV (V.int 32) (.int 32 T.t_MOST_KEPT) from ⟨_, rfl⟩))))))), ?_⟩
    obtain ⟨dx, d, kvs, h1, h2, h3, h4, h5⟩ := id hK
    have few := few_rows h4 h5
    refine ⟨_, rfl, ko, _, dx, _, _, rfl, h1, T.cl_Kept, T.no_Kept_rows, rfl, d, rfl, .inl ⟨_, .of h2⟩, _, rfl, a, _, _, _, rfl, rfl, (ea.same s0).sq, atI_nat (j := 0) rfl, ?_⟩
    refine ⟨by decide, fun e he => ?_⟩
    have se := same_upd he (.lst [])
    have h0e : H0 e = none := s0.free he
    have s1 : Same H0 (upd H e (.lst [])) := s0.trans se
    -- what comes behind: the row r with the pairs xs, in a heap with all that is kept
    have rest : ∀ (r : Addr) (xs : List V) (H1 : Hp), Same H0 H1 → Fr ko H H1 → KeptAt T.c_Kept W R H0 H1 ko → Own H1 ko r → H0 r = none → H1 r = some (.lst xs) → xs.length ≤ 32 → (∀ x ∈ xs, PairOk R H0 H1 x) →
        ∀ p, H1 p = none → ∃ ys, ys = xs ++ [V.ref p] ∧ Q .non (upd (upd (upd H1 p (.tup [V.ref a, rv])) r (.lst ys)) r (.lst (ys.drop (ys.length - 32)))) := by
      intro r xs H1 sH tH kH or h0r er hl hx p hp
      refine ⟨_, rfl, ?_⟩
      have npr : p ≠ r := (ne_of_none er hp).symm
      have sp := same_upd hp (.tup [V.ref a, rv])
      have er1 : upd H1 p (.tup [V.ref a, rv]) r = some (.lst xs) := sp _ _ er
      have t1 : Tu H1 (upd (upd (upd H1 p (.tup [V.ref a, rv])) r (.lst (xs ++ [V.ref p]))) r (.lst ((xs ++ [V.ref p]).drop ((xs ++ [V.ref p]).length - 32)))) := (Tu.of sp).trans ((Tu.lst er1 _).trans (Tu.lst upd_same _))
      have pNew : PairOk R H0 (upd (upd (upd H1 p (.tup [V.ref a, rv])) r (.lst (xs ++ [V.ref p]))) r (.lst ((xs ++ [V.ref p]).drop ((xs ++ [V.ref p]).length - 32)))) (.ref p) :=
        ⟨p, _, _, _, rfl, by rw [upd_ne npr, upd_ne npr, upd_same], hI, hf, hc, st _ _ _ _ (tH.tu.trans t1) hR⟩
      have s2 : Same H0 (upd (upd (upd H1 p (.tup [V.ref a, rv])) r (.lst (xs ++ [V.ref p]))) r (.lst ((xs ++ [V.ref p]).drop ((xs ++ [V.ref p]).length - 32)))) := Kx.Same.own (Kx.Same.own (sH.trans sp) h0r _) h0r _
      obtain ⟨dx', d', kvs', g1, g2, g3, g4, g5⟩ := id kH
      have nd : d' ≠ r := fun z => by subst z; rw [er] at g2; cases g2
      have f1 : Fr ko H1 (upd (upd (upd H1 p (.tup [V.ref a, rv])) r (.lst (xs ++ [V.ref p]))) r (.lst ((xs ++ [V.ref p]).drop ((xs ++ [V.ref p]).length - 32)))) := by
        refine ⟨t1, fun b o e n => ?_, fun b ob => ?_⟩
        · have nb : b ≠ r := fun z => n (z ▸ or)
          rw [upd_ne nb, upd_ne nb]; exact sp _ _ e
        · obtain ⟨C', dx2, d2, z1, z2⟩ := ob
          have y1 := t1 _ _ g1 (fun _ z => by cases z) (fun _ z => by cases z)
          rw [y1] at z1
          cases z1
          refine .inl ⟨_, _, d', g1, ?_⟩
          rcases z2 with z2 | ⟨k2, z2, z3⟩
          · exact .inl z2
          · rw [upd_ne nd, upd_ne nd, sp _ _ g2] at z2
            cases z2
            exact .inr ⟨kvs', g2, z3⟩
      refine q _ s2 (tH.trans f1) ?_
      refine ⟨dx', d', kvs', t1 _ _ g1 (fun _ z => by cases z) (fun _ z => by cases z), ?_, g3, g4, fun kv m => (g5 kv m).step fun r' xs' z0 z1 z2 z3 => ?_⟩
      · rw [upd_ne nd, upd_ne nd]; exact sp _ _ g2
      · by_cases c : r' = r
        · subst c
          refine ⟨_, upd_same, ?_, fun x hx' => ?_⟩
          · rw [List.length_drop]; omega
          · rcases List.mem_append.mp (List.mem_of_mem_drop hx') with z | z
            · exact (hx x z).tu st t1
            · rw [List.mem_singleton.mp z]; exact pNew
        · exact ⟨xs', by rw [upd_ne c, upd_ne c]; exact sp _ _ z1, z2, fun x hx' => (z3 x hx').tu st t1⟩
    refine ⟨kvs, Sum.inr w, se _ _ h2, rfl, small1000 (by omega), fun v hv => ?_, fun hn => ?_⟩
    · have kH := hK.same st se
      obtain ⟨_, r, xs, e1, e0, e2, e3, e4⟩ := (h5 _ (valV_mem hv)).same st se
      subst e1
      refine ⟨_, rfl, .inl ⟨rfl, _, SqL.of e2⟩, _, rfl, _, rfl, (by show 2 ≤ sizeLine; decide), fun p hp => ?_⟩
      obtain ⟨ys, rfl, qq⟩ := rest r xs _ s1 (Fr.of se hK) kH ⟨_, _, d, se _ _ h1, .inr ⟨kvs, se _ _ h2, _, valV_mem hv, rfl⟩⟩ e0 e2 e3 e4 p hp
      exact ⟨r, xs, _, rfl, rfl, same_upd hp _ _ _ e2, small1000 (by omega), _, rfl, _, rfl, _, rfl, r, _, 31, rfl, rfl, upd_same, qq⟩
    · have hd : H0 d = none := h3
      have h2e : upd H e (.lst []) d = some (.dK kvs) := se _ _ h2
      have nde : d ≠ e := fun z => by subst z; rw [h2] at he; cases he
      have t1 : Tu H (upd (upd H e (.lst [])) d (.dK (putK kvs (Sum.inr w) (.ref e)))) := (Tu.of se).trans (Tu.dict h2e _)
      have hn2 : upd (upd H e (.lst [])) d (.dK (putK kvs (Sum.inr w) (.ref e))) e = some (.lst []) := by rw [upd_ne nde.symm, upd_same]
      have kH : KeptAt T.c_Kept W R H0 (upd (upd H e (.lst [])) d (.dK (putK kvs (Sum.inr w) (.ref e)))) ko := by
        refine ⟨dx, d, putK kvs (Sum.inr w) (.ref e), t1 _ _ h1 (fun _ z => by cases z) (fun _ z => by cases z), upd_same, h3, nd_putK _ h4 hn, fun kv m => ?_⟩
        rw [putK_new _ hn] at m
        rcases List.mem_append.mp m with m | m
        · refine (h5 kv m).step fun r xs z0 z1 z2 z3 => ⟨xs, ?_, z2, fun x hx => (z3 x hx).tu st t1⟩
          have nr : r ≠ d := fun z => by subst z; rw [h2] at z1; cases z1
          rw [upd_ne nr]; exact se _ _ z1
        · rw [List.mem_singleton.mp m]
          exact ⟨⟨w, rfl, hw⟩, e, [], rfl, h0e, hn2, by simp, fun x hx => absurd hx (by simp)⟩
      have oE : Own (upd (upd H e (.lst [])) d (.dK (putK kvs (Sum.inr w) (.ref e)))) ko e := ⟨_, dx, d, t1 _ _ h1 (fun _ z => by cases z) (fun _ z => by cases z), .inr ⟨_, upd_same, (Sum.inr w, .ref e), by rw [putK_new _ hn]; exact List.mem_append_right _ (List.mem_singleton.mpr rfl), rfl⟩⟩
      have f1 : Fr ko H (upd (upd H e (.lst [])) d (.dK (putK kvs (Sum.inr w) (.ref e)))) := by
        refine ⟨t1, fun b o eb n => ?_, fun b ob => ?_⟩
        · rw [upd_ne fun z => n ⟨_, _, d, h1, .inl z⟩]; exact se _ _ eb
        · obtain ⟨C', dx2, d2, z1, z2⟩ := ob
          have y1 := t1 _ _ h1 (fun _ z => by cases z) (fun _ z => by cases z)
          rw [y1] at z1
          cases z1
          rcases z2 with z2 | ⟨k2, z2, kv, z3, z4⟩
          · exact .inl ⟨_, _, d, h1, .inl z2⟩
          · rw [upd_same] at z2
            cases z2
            rw [putK_new _ hn] at z3
            rcases List.mem_append.mp z3 with z3 | z3
            · exact .inl ⟨_, _, d, h1, .inr ⟨kvs, h2, kv, z3, z4⟩⟩
            · rw [List.mem_singleton.mp z3] at z4
              cases z4
              exact .inr he
      refine ⟨_, rfl, .inl ⟨rfl, _, SqL.of hn2⟩, _, rfl, _, rfl, (by show 2 ≤ sizeLine; decide), fun p hp => ?_⟩
      obtain ⟨ys, rfl, qq⟩ := rest e [] _ (Kx.Same.own s1 hd _) f1 kH oE h0e hn2 (by simp) (fun x hx => absurd hx (by simp)) p hp
      exact ⟨e, [], _, rfl, rfl, same_upd hp _ _ _ hn2, by decide, _, rfl, _, rfl, _, rfl, e, _, 31, rfl, rfl, upd_same, qq⟩
end
end Kx
namespace Kx
open PySem PySem.Spec PyProof.Rows L2
section
variable {P : Program} {w : World} {K : PySem.W.Frag} {mg : Str → Option Value} {base : Heap}
/-- all but the lists at d and c stands; those are lists still -/
structure Ex (d c : Addr) (H H' : Hp) : Prop where
  but : ∀ b o, b ≠ d → b ≠ c → H b = some o → H' b = some o
  l1 : (∃ xs, H d = some (.lst xs)) → ∃ xs, H' d = some (.lst xs)
  l2 : (∃ xs, H c = some (.lst xs)) → ∃ xs, H' c = some (.lst xs)
theorem Ex.refl (d c : Addr) (H : Hp) : Ex d c H H := ⟨fun _ _ _ _ h => h, id, id⟩
theorem Ex.trans {d c : Addr} {H H1 H2 : Hp} (a : Ex d c H H1) (b : Ex d c H1 H2) : Ex d c H H2 := ⟨fun x o n1 n2 h => b.but x o n1 n2 (a.but x o n1 n2 h), fun h => b.l1 (a.l1 h), fun h => b.l2 (a.l2 h)⟩
theorem Ex.of {d c : Addr} {H H' : Hp} (s : Same H H') : Ex d c H H' := ⟨fun b o _ _ h => s b o h, fun ⟨xs, h⟩ => ⟨xs, s _ _ h⟩, fun ⟨xs, h⟩ => ⟨xs, s _ _ h⟩⟩
theorem Ex.set1 {d c : Addr} {H : Hp} (xs : List V) : Ex d c H (upd H d (.lst xs)) := ⟨fun b o n _ h => by rw [upd_ne n]; exact h, fun _ => ⟨xs, upd_same⟩, fun ⟨ys, h⟩ => by
  by_cases q : c = d
  · subst q; exact ⟨xs, upd_same⟩
  · exact ⟨ys, by rw [upd_ne q]; exact h⟩⟩
theorem Ex.set2 {d c : Addr} {H : Hp} (xs : List V) : Ex d c H (upd H c (.lst xs)) := ⟨fun b o _ n h => by rw [upd_ne n]; exact h, fun ⟨ys, h⟩ => (by
  by_cases q : d = c
  · subst q; exact ⟨xs, upd_same⟩
  · exact ⟨ys, by rw [upd_ne q]; exact h⟩), fun _ => ⟨xs, upd_same⟩⟩
/-- the state of the draws: a list of the cells and the seed -/
def Dr (H : Hp) (d c : Addr) : Prop := ∃ (ns : List Int) (m : Int), H d = some (.lst [.ref c, .int m]) ∧ H c = some (.lst (ns.map V.int)) ∧ c ≠ d ∧ (∀ n ∈ ns, 0 ≤ n) ∧ 0 ≤ m ∧ m < 2147483648 ∧ ns.length ≤ 63
theorem Dr.lst {H : Hp} {d c : Addr} (h : Dr H d c) : (∃ xs, H d = some (.lst xs)) ∧ ∃ xs, H c = some (.lst xs) := by
  obtain ⟨ns, m, e, e2, _⟩ := h
  exact ⟨⟨_, e⟩, _, e2⟩
theorem Dr.same {H H' : Hp} {d c : Addr} (s : Same H H') (h : Dr H d c) : Dr H' d c := by
  obtain ⟨ns, m, e, e2, r⟩ := h
  exact ⟨ns, m, s _ _ e, s _ _ e2, r⟩
theorem Dr.own {H : Hp} {d c l : Addr} {o : HO} (h : Dr H d c) (n1 : l ≠ d) (n2 : l ≠ c) : Dr (upd H l o) d c := by
  obtain ⟨ns, m, e, e2, r⟩ := h
  exact ⟨ns, m, by rw [upd_ne n1.symm]; exact e, by rw [upd_ne n2.symm]; exact e2, r⟩
theorem Dr.free {H : Hp} {d c l : Addr} (h : Dr H d c) (n : H l = none) : l ≠ d ∧ l ≠ c := by
  obtain ⟨ns, m, e, e2, r⟩ := h
  exact ⟨(ne_of_none e n).symm, (ne_of_none e2 n).symm⟩
/-- what is no list stands -/
theorem Ex.keep {d c b : Addr} {H H' : Hp} {o : HO} (x : Ex d c H H') (h : Dr H d c) (e : H b = some o) (n : ∀ xs, o ≠ .lst xs) : H' b = some o := by
  obtain ⟨⟨xs, h1⟩, ys, h2⟩ := h.lst
  refine x.but b o (fun q => ?_) (fun q => ?_) e
  · subst q; rw [h1] at e; exact n xs (Option.some.inj e).symm
  · subst q; rw [h2] at e; exact n ys (Option.some.inj e).symm
mutual
theorem Is.ex {d c : Addr} {H H' : Hp} (x : Ex d c H H') (h : Dr H d c) : ∀ {v : V} {t : PV}, Is H v t → Is H' v t
  | _, _, .str z k => .str z k
  | _, _, .non => .non
  | _, _, .bl b => .bl b
  | _, _, .int i => .int i
  | _, _, .lst (a := a) e => by
    by_cases q : a = d
    · subst q; exact .lst (x.l1 e)
    · by_cases q2 : a = c
      · subst q2; exact .lst (x.l2 e)
      · obtain ⟨xs, e⟩ := e; exact .lst ⟨xs, x.but _ _ q q2 e⟩
  | _, _, .dict e => .dict (x.keep h e fun xs q => by cases q)
  | _, _, .tup e r => .tup (e.elim fun o z => ⟨o, x.keep h z.1 (fun xs q => by cases q), z.2⟩) (IsL.ex x h r)
theorem IsL.ex {d c : Addr} {H H' : Hp} (x : Ex d c H H') (h : Dr H d c) : ∀ {v : List V} {t : List PV}, IsL H v t → IsL H' v t
  | _, _, .nil => .nil
  | _, _, .cons a r => .cons (Is.ex x h a) (IsL.ex x h r)
end
def spState (K : PySem.W.Frag) : Sp := fun vs H Q _ => ∃ (a : Addr) (ns : List Int), vs = [.ref a] ∧ SqL K H a (ns.map V.int) ∧ ns.length ≤ 63 ∧ ∀ d c H', Same H H' → Dr H' d c → Q (.ref d) H'
def spDraw : Sp := fun vs H Q _ => ∃ (d c : Addr) (n : Int), vs = [.ref d, .int n] ∧ Dr H d c ∧ 1 ≤ n ∧ n ≤ 1000 ∧ ∀ (r : Int) H', 0 ≤ r → r < n → Ex d c H H' → Dr H' d c → Q (.int r) H'
def spPick (K : PySem.W.Frag) : Sp := fun vs H Q _ => ∃ (d c p : Addr) (xs : List V), vs = [.ref d, .ref p] ∧ Dr H d c ∧ (H p = some (.lst xs) ∨ SqT K H p xs) ∧ p ≠ d ∧ p ≠ c ∧ 1 ≤ xs.length ∧ xs.length ≤ 1000 ∧ ∀ (x : V) H', x ∈ xs → Ex d c H H' → Dr H' d c → Q x H'
theorem fmb (a : Int) {b : Int} (hb : 0 < b) : 0 ≤ a.fmod b ∧ a.fmod b < b := ⟨Int.fmod_nonneg_of_pos a hb, Int.fmod_lt_of_pos a hb⟩
theorem at_int {ns : List Int} {i : Int} (h0 : 0 ≤ i) (h : i < ns.length) : ∃ x : Int, atI (ns.map V.int) i = some (.int x) := by
  have hk : i.toNat < ns.length := by omega
  have q : atI (ns.map V.int) ((i.toNat : Nat) : Int) = some (.int ns[i.toNat]) := atI_nat (by rw [List.getElem?_map, List.getElem?_eq_getElem hk] <;> rfl)
  rw [show ((i.toNat : Nat) : Int) = i by omega] at q
  exact ⟨_, q⟩
theorem ok_law_state (T : Txt K mg)  : FnOk P w K mg base CX0 1 T.a_law_state T.d_law_state ["script"] (spState K) := by
  refine T.F_law_state.ok sc_law_state (fun vs H Q E h => ?_) (fun cdv A outer s H vs Q E hr h => ?_)
  · obtain ⟨a, ns, rfl, _⟩ := h; rfl
  · obtain ⟨a, ns, rfl, hS, hl, q⟩ := h
    refine ⟨_, (pss_cons (ps_set (i := 1) sc_law_state.nd rfl (Or.inl rfl) pe_int)
    (pss_cons (ps_for PassesOwn.never rfl (pi_list (pv 0)) (pg_name (i := 2) sc_law_state.nd rfl (Or.inl rfl))
    (pss_one (ps_set (i := 1) sc_law_state.nd rfl (Or.inl rfl) (pe_op op_modN (pe_callTy call_int1 (by rfl) T.z_int (by decide +kernel) (pa_cons (pe_op op_add (pe_op op_mul (pv 1) pe_int) (pv 2)) pa_nil)) pe_int))))
    (pss_one (ps_ret (pe_lst (pa_cons (pe_lc (own := [("cell", 2)]) (g := (gName 2)) (tt := tYes) rfl sc_law_state.nd (pi_list (pv 0)) (blkOk_by (own := [("cell", 2)]) (N := ["script", "seed", "cell"]) (sc := defScope s_law_state) (by decide +kernel)) (fun _ _ _ _ _ => (pg_name (i := 2) sc_law_state.nd rfl (Or.inl rfl))) (fun _ _ _ _ _ => pts_nil) (fun _ _ _ _ _ => (pe_callB call_abs (by rfl) T.z_abs (by decide +kernel) (pa_cons (pe_callTy call_int1 (by rfl) T.z_int (by decide +kernel) (pa_cons (pv 2) pa_nil)) pa_nil)))) (pa_cons (pe_op op_add (pv 1) pe_int) pa_nil))))))), ?_⟩
    refine ⟨_, rfl, a, rfl, ⟨_, hS⟩, for_list (K := K) (a := a) (xs := ns.map V.int) (fun i σ H2 => ∃ m y, σ = [some (.ref a), some (.int m), y] ∧ H2 = H ∧ 0 ≤ m ∧ m < 1000003) ⟨7, none, rfl, rfl, by omega, by omega⟩ (fun i σ H2 _ ⟨_, _, _, e, _⟩ => by rw [e]; exact hS) ?_ ?_⟩
    · rintro i x σ H2 hx ⟨m, y, rfl, rfl, m0, m1⟩
      obtain ⟨n, _, rfl⟩ := List.mem_map.mp (List.mem_of_getElem? hx)
      obtain ⟨b0, b1⟩ := fmb (m * 31 + n) (b := 1000003) (by decide)
      exact ⟨_, rfl, _, _, rfl, rfl, .inl ⟨by omega, by omega⟩, _, rfl, _, _, rfl, rfl, .inl ⟨_, rfl, _, _, rfl, rfl, (by show (1000003 : Int) ≠ 0; decide), _, _, rfl, rfl, b0, b1⟩⟩
    · rintro σ H2 ⟨m, y, rfl, rfl, m0, m1⟩
      refine ⟨_, rfl, a, rfl, ⟨_, hS⟩, fun D hD => ?_⟩
      refine lc_list (K := K) (a := a) (xs := ns.map V.int) (fun i H3 => ∃ ms : List Int, H3 = upd H2 D (.lst (ms.map V.int)) ∧ ms.length = i ∧ ∀ n ∈ ms, 0 ≤ n) ⟨[], rfl, rfl, fun _ h => by cases h⟩ (fun i H3 _ ⟨ms, e, _⟩ => ?_) ?_ ?_
      · rw [e]; exact (same_upd hD _).seq hS
      · rintro i x H3 hx ⟨ms, rfl, hlen, hpos⟩
        have hi := (List.getElem?_eq_some_iff.mp hx).1
        rw [List.length_map] at hi
        obtain ⟨n, _, rfl⟩ := List.mem_map.mp (List.mem_of_getElem? hx)
        refine ⟨rfl, yes_if ⟨_, rfl, .inl ⟨_, rfl, _, rfl, ms.map V.int, upd_same, ?_, ms ++ [if n < 0 then -n else n], ?_, ?_, ?_⟩⟩⟩
        · rw [List.length_map]; exact small1000 (by omega)
        · rw [upd_upd, List.map_append]; rfl
        · rw [List.length_append, hlen]; rfl
        · intro z hz
          rcases List.mem_append.mp hz with hz | hz
          · exact hpos z hz
          · rw [List.mem_singleton.mp hz]; split <;> omega
      · rintro H3 ⟨ms, rfl, hlen, hpos⟩
        rw [List.length_map] at hlen
        refine ⟨_, rfl, _, _, rfl, rfl, (by show 2 ≤ sizeLine; decide), fun d hd => ?_⟩
        have n1 : D ≠ d := ne_of_none upd_same hd
        exact q d D _ ((same_upd hD _).trans (same_upd hd _)) ⟨ms, m + 1, upd_same, by rw [upd_ne n1, upd_same], n1, hpos, by omega, by omega, by omega⟩
theorem ok_law_draw (T : Txt K mg)  : FnOk P w K mg base CX0 1 T.a_law_draw T.d_law_draw ["state", "many"] spDraw := by
  refine T.F_law_draw.ok sc_law_draw (fun vs H Q E h => ?_) (fun cdv A outer s H vs Q E hr h => ?_)
  · obtain ⟨d, c, n, rfl, _⟩ := h; rfl
  · obtain ⟨d, c, n, rfl, hD, h1, h2, q⟩ := h
    have nz : n ≠ 0 := by omega
    refine ⟨_, (pss_cons (ps_set (i := 2) sc_law_draw.nd rfl (Or.inl rfl) (pe_ix ix_list (pv 0) pe_int (fun _ _ => rfl)))
    (Evl.pss_cut (ps_while PassesOwn.never (PW.pt (pw_and (pt_cmpR op_gt (pe_callB call_len_seq (by rfl) T.z_len (by decide +kernel) (pa_cons (pv 2) pa_nil)) pe_int (nomark _)) (pw_and1 (pt_cmpR op_eq (pe_ix ix_list (pv 2) pe_int (fun _ _ => rfl)) pe_int (nomark _)))))
    (pss_one (ps_expr (pe_bm PySem.F.plainAttrs_list PySem.F.slot_list_pop PySem.F.type_list_pop mt_popAt (pv 2) (pa_cons pe_int pa_nil)))))
    (pss_cons (ps_if (pt_cmpR op_gt (pe_callB call_len_seq (by rfl) T.z_len (by decide +kernel) (pa_cons (pv 2) pa_nil)) pe_int (nomark _)) (pss_cons (ps_set (i := 3) sc_law_draw.nd rfl (Or.inl rfl) (pe_ix ix_list (pv 2) pe_int (fun _ _ => rfl)))
    (pss_cons (ps_asg (pe_op op_fdivN (pv 3) (pv 1)) (pg_sub (pv 2) pe_int set_list))
    (pss_one (ps_ret (pe_op op_modN (pe_callTy call_int1 (by rfl) T.z_int (by decide +kernel) (pa_cons (pv 3) pa_nil)) (pv 1)))))) pss_nil)
    (pss_cons (ps_set (i := 4) sc_law_draw.nd rfl (Or.inl rfl) (pe_op op_modN (pe_callTy call_int1 (by rfl) T.z_int (by decide +kernel) (pa_cons (pe_op op_add (pe_op op_mul (pe_ix ix_list (pv 0) pe_int (fun _ _ => rfl)) pe_int) pe_int) pa_nil)) pe_int))
    (pss_cons (ps_asg (pv 4) (pg_sub (pv 0) pe_int set_list))
    (pss_one (ps_ret (pe_op op_modN (pe_callTy call_int1 (by rfl) T.z_int (by decide +kernel) (pa_cons (pe_op op_fdivN (pv 4) pe_int) pa_nil)) (pv 1))))))))), ?_⟩
    obtain ⟨ns, m, e, e2, hn, hpos, m0, m1, hl⟩ := id hD
    refine ⟨_, rfl, d, _, _, _, rfl, rfl, SqL.of e, rfl, ?_⟩
    refine ⟨fun σ H2 => ∃ ms : List Int, σ = [some (.ref d), some (.int n), some (.ref c), none, none] ∧ H2 d = some (.lst [.ref c, .int m]) ∧ H2 c = some (.lst (ms.map V.int)) ∧ ms.length ≤ 63 ∧ (∀ z ∈ ms, 0 ≤ z) ∧ Ex d c H H2, ?_, ?_⟩
    · refine ⟨fun k σ H2 => ∃ ms : List Int, σ = [some (.ref d), some (.int n), some (.ref c), none, none] ∧ H2 d = some (.lst [.ref c, .int m]) ∧ H2 c = some (.lst (ms.map V.int)) ∧ ms.length = k ∧ k ≤ 63 ∧ (∀ z ∈ ms, 0 ≤ z) ∧ Ex d c H H2, ⟨ns.length, ns, rfl, e, e2, rfl, hl, hpos, .refl _ _ _⟩, ?_⟩
      rintro k σ H2 ⟨ms, rfl, f1, f2, hk, k63, hp, hx⟩
      refine ⟨_, rfl, c, _, rfl, .inl (SqL.of f2), _, _, rfl, rfl, _, rfl, ite2 (fun cz => ?_) (fun _ => iteF ⟨ms, rfl, f1, f2, by omega, hp, hx⟩)⟩
      cases ms with
      | nil => cases cz
      | cons x ms =>
      refine ⟨_, rfl, c, _, _, V.int x, rfl, rfl, SqL.of f2, atI_nat (j := 0) rfl, rfl, _, rfl, ite2 (fun c0 => ?_) (fun _ => ⟨_, rfl, f1, f2, by omega, hp, hx⟩)⟩
      refine ⟨fun σ' H' => ∃ ms' : List Int, σ' = [some (.ref d), some (.int n), some (.ref c), none, none] ∧ H' d = some (.lst [.ref c, .int m]) ∧ H' c = some (.lst (ms'.map V.int)) ∧ ms'.length < k ∧ k ≤ 63 ∧ (∀ z ∈ ms', 0 ≤ z) ∧ Ex d c H H', fun σ' H' ⟨ms', r1, r2, r3, r4, r5, r6, r7⟩ => ⟨ms'.length, r4, ms', r1, r2, r3, rfl, by omega, r6, r7⟩, ?_⟩
      have z0 : ixN ((x :: ms).map V.int).length 0 = some 0 := Evl.ixN_nat (j := 0) (by rw [List.length_map, List.length_cons]; omega)
      refine ⟨_, rfl, .inl ⟨rfl, _, SqL.of f2⟩, c, _, 0, 0, _, rfl, rfl, f2, by decide, by decide, (ixN_seq z0).1, rfl, ms, rfl, by rw [upd_ne hn.symm]; exact f1, by rw [upd_same]; rfl, by rw [List.length_cons] at hk; omega, k63, fun z hz => hp z (List.mem_cons_of_mem _ hz), hx.trans (.set2 _)⟩
    · rintro σ H2 ⟨ms, rfl, f1, f2, k63, hp, hx⟩
      refine ⟨_, rfl, c, _, rfl, .inl (SqL.of f2), _, _, rfl, rfl, _, rfl, ite2 (fun cz => ?_) (fun _ => ?_)⟩
      · cases ms with
        | nil => cases cz
        | cons x ms =>
        have x0 := hp x (List.mem_cons_self ..)
        have z0 : ixN ((x :: ms).map V.int).length 0 = some 0 := Evl.ixN_nat (j := 0) (by rw [List.length_map, List.length_cons]; omega)
        refine ⟨_, rfl, c, _, _, V.int x, rfl, rfl, SqL.of f2, atI_nat (j := 0) rfl, _, rfl, _, rfl, _, _, rfl, rfl, ⟨nz, by omega⟩, _, rfl, c, _, _, 0, rfl, rfl, f2, z0, _, rfl, .inl ⟨_, rfl, _, rfl, _, _, rfl, rfl, nz, ?_⟩⟩
        obtain ⟨b0, b1⟩ := fmb x (b := n) (by omega)
        refine q _ _ b0 b1 (hx.trans (.set2 _)) ⟨x.fdiv n :: ms, m, by rw [upd_ne hn.symm]; exact f1, upd_same, hn, fun z hz => ?_, m0, m1, k63⟩
        rcases List.mem_cons.mp hz with rfl | hz
        · exact Int.fdiv_nonneg x0 (by omega)
        · exact hp z (List.mem_cons_of_mem _ hz)
      · obtain ⟨b0, b1⟩ := fmb (m * 48271 + 12345) (b := 2147483647) (by decide)
        refine ⟨_, rfl, d, _, _, _, rfl, rfl, SqL.of f1, rfl, _, _, rfl, rfl, .inl ⟨by omega, by omega⟩, _, _, rfl, rfl, .inl ⟨_, rfl, _, _, rfl, rfl, (by show (2147483647 : Int) ≠ 0; decide), _, rfl, _, rfl, d, _, _, 1, rfl, rfl, f1, rfl, ?_⟩⟩
        refine ⟨_, rfl, _, _, rfl, rfl, ⟨by decide, by decide⟩, .inl ⟨_, rfl, _, rfl, _, _, rfl, rfl, nz, ?_⟩⟩
        obtain ⟨c0, c1⟩ := fmb (((m * 48271 + 12345).fmod 2147483647).fdiv 64) (b := n) (by omega)
        exact q _ _ c0 c1 (hx.trans (.set1 _)) ⟨ms, _, upd_same, by rw [upd_ne hn]; exact f2, hn, hp, b0, by omega, k63⟩
theorem ok_law_pick (T : Txt K mg) (G_law_draw : FnOk P w K mg base CX0 1 T.a_law_draw T.d_law_draw ["state", "many"] spDraw) : FnOk P w K mg base CX0 2 T.a_law_pick T.d_law_pick ["state", "row"] (spPick K) := by
  refine T.F_law_pick.ok sc_law_pick (fun vs H Q E h => ?_) (fun cdv A outer s H vs Q E hr h => ?_)
  · obtain ⟨d, c, p, xs, rfl, _⟩ := h; rfl
  · obtain ⟨d, c, p, xs, rfl, hD, hP, hn, hn2, h1, h2, q⟩ := h
    have hr_law_draw := hr
    refine ⟨_, (pss_one (ps_ret (pe_ix ix_seq (pv 1) (pe_call G_law_draw hr_law_draw rfl T.m_law_draw T.F_law_draw.kp T.b_law_draw .nil pass0 (pa_cons (pv 0) (pa_cons (pe_callB call_len_seq (by rfl) T.z_len (by decide +kernel) (pa_cons (pv 1) pa_nil)) pa_nil))) (fun _ _ => rfl)))), ?_⟩
    have seqs : ∀ H', Ex d c H H' → H' p = some (.lst xs) ∨ SqT K H' p xs := fun H' x => by
      rcases hP with e | (e | ⟨o, e⟩) | e
      · exact .inl (x.but _ _ hn hn2 e)
      · exact .inr (.inl (.inl (x.but _ _ hn hn2 e)))
      · exact .inr (.inl (.inr ⟨o, x.but _ _ hn hn2 e⟩))
      · exact .inr (.inr e)
    refine ⟨_, rfl, _, rfl, _, rfl, p, xs, rfl, hP.imp SqL.of id, d, c, _, rfl, hD, by omega, by omega, fun r H' r0 r1 hx hD' => ?_⟩
    have hk : r.toNat < xs.length := by omega
    have hat : atI xs r = some (xs[r.toNat]) := by
      have z : atI xs ((r.toNat : Nat) : Int) = some (xs[r.toNat]) := atI_nat (List.getElem?_eq_getElem hk)
      rwa [show ((r.toNat : Nat) : Int) = r by omega] at z
    have fin := q (xs[r.toNat]) H' (List.getElem_mem hk) hx hD'
    rcases seqs H' hx with e | e
    · exact .inl ⟨p, _, _, _, rfl, rfl, SqL.of e, hat, fin⟩
    · exact .inr (.inl ⟨p, _, _, _, rfl, rfl, e, hat, fin⟩)
end
end Kx
namespace Kx
open PySem PySem.Spec PyProof.Rows L2
section
variable {P : Program} {w : World} {K : PySem.W.Frag} {mg : Str → Option Value} {base : Heap}
theorem cut_from (xs : List V) {k : Nat} (h : k ≤ xs.length) : cutV xs (some (k : Int)) none = xs.drop k := by
  unfold cutV
  rw [HT.sIx_nat, HT.sIx_none, Nat.min_eq_left h, List.take_of_length_le (by rw [List.length_drop]; exact Nat.le_refl _)]
theorem cut_to (xs : List V) {k : Nat} (h : k ≤ xs.length) : cutV xs none (some (k : Int)) = xs.take k := by
  unfold cutV
  rw [HT.sIx_nat, HT.sIx_none, Nat.min_eq_left h]
  rfl
theorem slice1 {x : V} {vs : List V} : ¬ (HT.sIx (x :: vs).length 0 (some (1 : Int)) = 0 ∧ HT.sIx (x :: vs).length (x :: vs).length none = (x :: vs).length) := by
  intro e
  have h := e.1
  rw [show (1 : Int) = ((1 : Nat) : Int) from rfl, HT.sIx_nat, List.length_cons] at h
  omega
theorem cut1 {x : V} {vs : List V} : cutV (x :: vs) (some (1 : Int)) none = vs := cut_from (k := 1) (x :: vs) (by rw [List.length_cons]; omega)
def decOk (w : Nat) : ∀ (n : Nat) (t : PV), Decidable (OkW w n t)
  | 0, _ => .isFalse id
  | _ + 1, .str z => inferInstanceAs (Decidable (z.length ≤ 100))
  | _ + 1, .oth _ => .isTrue trivial
  | n + 1, .tup ts => have : DecidablePred (OkW w n) := decOk w n; inferInstanceAs (Decidable (ts.length ≤ w ∧ ∀ t ∈ ts, OkW w n t))
instance (w n : Nat) (t : PV) : Decidable (OkW w n t) := decOk w n t
/-! ### data that is written down -/
def MkE (σ : L2.St) (H0 : Hp) (te : TE) (t : PV) : Prop := ∀ (H : Hp) (Q : VK), Same H0 H → (∀ v H', Same H H' → Is H' v t → Q v H') → te σ H Q
def MkA (σ : L2.St) (H0 : Hp) (ta : TA) (ts : List PV) : Prop := ∀ (H : Hp) (Q : List V → Hp → Prop), Same H0 H → (∀ vs H', Same H H' → IsL H' vs ts → Q vs H') → ta σ H Q
theorem mk_var {σ : L2.St} {H0 : Hp} {i : Nat} {v : V} {t : PV} (e : σ[i]? = some (some v)) (h : Is H0 v t) : MkE σ H0 (tVar i) t := fun H Q s q => ⟨v, e, q v H (.refl _) (h.same s)⟩
theorem mk_str {σ : L2.St} {H0 : Hp} {z : Str} (h : sok z = true) : MkE σ H0 (tC (.str z)) (.str z) := fun H Q s q => q _ H (.refl _) (.str z h)
theorem mk_nil {σ : L2.St} {H0 : Hp} : MkA σ H0 tNil [] := fun H Q s q => q [] H (.refl _) .nil
theorem mk_cons {σ : L2.St} {H0 : Hp} {te : TE} {ta : TA} {t : PV} {ts : List PV} (a : MkE σ H0 te t) (b : MkA σ H0 ta ts) : MkA σ H0 (tCons te ta) (t :: ts) := fun H Q s q =>
  a H _ s fun v H1 s1 i1 => b H1 _ (s.trans s1) fun vs H2 s2 i2 => q _ H2 (s1.trans s2) (.cons (i1.same s2) i2)
theorem mk_tup {σ : L2.St} {H0 : Hp} {ta : TA} {ts : List PV} (a : MkA σ H0 ta ts) (hl : ts.length ≤ 1000) : MkE σ H0 (tTupG ta) (.tup ts) := fun H Q s q =>
  a H _ s fun vs H1 s1 i1 => ⟨Nat.le_of_lt (small1000 (by rw [i1.len]; exact hl)), fun p H2 hp s2 e => q _ _ (s1.trans s2) (.tup e (i1.same s2))⟩
theorem mk_go {σ : L2.St} {H : Hp} {te : TE} {t : PV} {Q : VK} (m : MkE σ H te t) (q : ∀ v H', Same H H' → Is H' v t → Q v H') : te σ H Q := m H Q (.refl _) q
theorem go_asg {σ : L2.St} {H : Hp} {te : TE} {t : PV} {g : TG} {rest : TS} {D : Ends} (m : MkE σ H te t) (q : ∀ v H1, Same H H1 → Is H1 v t → g v σ H1 fun σ2 H2 => rest D σ2 H2) : tSeq (tAsg te g) rest D σ H := m H _ (.refl _) q
theorem go_kind {σ : L2.St} {H : Hp} {te : TE} {rest : TS} {D : Ends} {k j : Int} (e : σ[0]? = some (some (.int k))) (y : k = j → te σ H D.rt) (n : k ≠ j → rest D σ H) : tSeq (tIfS (tTest (tOp rEq (tVar 0) (tC (.int j)))) (tRet te) tNext) rest D σ H := by
  refine ⟨_, e, rfl, _, rfl, ?_⟩
  rw [dec_int]
  by_cases h : k = j
  · have : (k == j) = true := by simpa using h
    rw [this]; exact iteT (y h)
  · have : (k == j) = false := by simpa using h
    rw [this]; exact iteF (n h)
theorem go_kindB {σ : L2.St} {H : Hp} {body rest : TS} {D : Ends} {k j : Int} (e : σ[0]? = some (some (.int k))) (y : k = j → body { D with nx := rest D } σ H) (n : k ≠ j → rest D σ H) : tSeq (tIfS (tTest (tOp rEq (tVar 0) (tC (.int j)))) body tNext) rest D σ H := by
  refine ⟨_, e, rfl, _, rfl, ?_⟩
  rw [dec_int]
  by_cases h : k = j
  · have : (k == j) = true := by simpa using h
    rw [this]; exact iteT (y h)
  · have : (k == j) = false := by simpa using h
    rw [this]; exact iteF (n h)
theorem mk_list {σ : L2.St} {H0 H : Hp} {ta : TA} {ts : List PV} {Q : VK} (a : MkA σ H0 ta ts) (s : Same H0 H) (hl : ts.length ≤ 1000) (q : ∀ l vs H', H l = none → Same H H' → H' l = some (.lst vs) → IsL H' vs ts → Q (.ref l) H') : tLst ta σ H Q :=
  a H _ s fun vs H1 s1 i1 => ⟨Nat.le_of_lt (small1000 (by rw [i1.len]; exact hl)), fun p hp => q p vs _ (s1.free hp) (s1.trans (same_upd hp _)) upd_same (i1.same (same_upd hp _))⟩
/-! ### the table -/
structure Row where
  ps : List (Str × PV)
  ix : PV
def prPV (p : Str × PV) : PV := .tup [.str p.1, p.2]
def rowPV (r : Row) : PV := .tup [.tup (r.ps.map prPV), r.ix]
structure RowG (F : List Str) (r : Row) : Prop where
  ps : ∀ p ∈ r.ps, p.1 ∈ F ∧ OkW 16 3 p.2
  len : r.ps.length ≤ 2
  ix : OkW 16 3 r.ix
def tz : PV := .tup [.str "z"]
def ts_ : PV := .tup [.str "s", .str "n"]
def tp_ : PV := .tup [.str "p", .str "n", .str "m"]
def nn : PV := .str "n"
/-- the rows of each kind -/
def shape (k : Int) (own other third : Str) : List Row :=
  if k = 0 then [⟨[], tz⟩, ⟨[(own, nn)], ts_⟩] else
  if k = 1 then [⟨[], tz⟩] else
  if k = 2 then [⟨[(other, nn)], ts_⟩] else
  if k = 3 then [⟨[(other, nn)], ts_⟩, ⟨[(own, nn)], ts_⟩] else
  if k = 4 then [⟨[], tz⟩, ⟨[(other, tz), (own, nn)], ts_⟩] else
  if k = 5 then [⟨[], tz⟩, ⟨[(other, nn)], ts_⟩] else
  if k = 6 then [⟨[(other, ts_)], nn⟩] else
  if k = 7 then [⟨[(other, nn), (third, nn)], ts_⟩] else
  if k = 8 then [⟨[(other, nn), (third, nn)], tz⟩] else
  if k = 9 then [⟨[(own, nn)], ts_⟩] else
  if k = 10 then [⟨[], tz⟩, ⟨[(other, nn)], ts_⟩, ⟨[(third, nn)], ts_⟩] else
  if k = 11 then [⟨[], tz⟩, ⟨[(own, nn), (other, .str "m")], tp_⟩, ⟨[(own, tp_)], nn⟩] else
  if k = 12 then [⟨[], tz⟩, ⟨[(own, nn)], ts_⟩, ⟨[(own, ts_)], nn⟩] else
  if k = 13 then [⟨[], .tup [.str "o"]⟩, ⟨[(other, nn)], ts_⟩] else
  [⟨[], tz⟩, ⟨[(own, nn), (other, .str "m")], ts_⟩]
def ShG (F : List Str) (l : List Row) : Prop := (∀ r ∈ l, RowG F r) ∧ 1 ≤ l.length ∧ l.length ≤ 3
theorem shape_ok {F : List Str} {k : Int} {own other third : Str} (h1 : own ∈ F) (h2 : other ∈ F) (h3 : third ∈ F) : ShG F (shape k own other third) := by
  have base : ∀ r : Row, (∀ p ∈ r.ps, p.1 = own ∨ p.1 = other ∨ p.1 = third) → (∀ p ∈ r.ps, p.2 = tz ∨ p.2 = nn ∨ p.2 = ts_ ∨ p.2 = tp_ ∨ p.2 = .str "m") → r.ps.length ≤ 2 → OkW 16 3 r.ix → RowG F r := by
    intro r a b c d
    refine ⟨fun p hp => ⟨?_, ?_⟩, c, d⟩
    · rcases a p hp with q | q | q <;> rw [q] <;> assumption
    · rcases b p hp with q | q | q | q | q <;> rw [q] <;> decide +kernel
  have all : ∀ l : List Row, 1 ≤ l.length → l.length ≤ 3 → (∀ r ∈ l, RowG F r) → ShG F l := fun l c a b => ⟨b, c, a⟩
  have one : ∀ r : Row, RowG F r → ∀ x ∈ [r], RowG F x := fun r h x hx => by rw [List.mem_singleton.mp hx]; exact h
  have more : ∀ (r : Row) (l : List Row), RowG F r → (∀ x ∈ l, RowG F x) → ∀ x ∈ r :: l, RowG F x := fun r l h g x hx => by
    rcases List.mem_cons.mp hx with q | q
    · rw [q]; exact h
    · exact g x q
  have key : ∀ (c : Prop) [Decidable c] (a b : List Row), ShG F a → ShG F b → ShG F (if c then a else b) := fun c _ a b x y => by split <;> assumption
  unfold shape
  repeat' refine key _ _ _ ?_ ?_
  all_goals refine all _ ?_ ?_ ?_
  all_goals try exact Nat.le_of_ble_eq_true rfl
  all_goals repeat' (first | refine one _ ?_ | refine more _ _ ?_ ?_)
  all_goals refine base _ ?_ ?_ ?_ ?_
  all_goals first
    | exact (by decide +kernel : OkW 16 3 tz)
    | exact (by decide +kernel : OkW 16 3 nn)
    | exact (by decide +kernel : OkW 16 3 ts_)
    | exact (by decide +kernel : OkW 16 3 tp_)
    | exact (by decide +kernel : OkW 16 3 (.tup [.str "o"]))
    | (simp; done)
def spShape : Sp := fun vs H Q _ => ∃ (k : Int) (own other third : Str), vs = [.int k, .str own, .str other, .str third] ∧ sok own = true ∧ sok other = true ∧ sok third = true ∧
  ∀ l us H', H l = none → Same H H' → H' l = some (.lst us) → IsL H' us ((shape k own other third).map rowPV) → Q (.ref l) H'
theorem scal_int (a b : Int) : scal (.int a) (.int b) = true := rfl
theorem ok_law_shape (T : Txt K mg)  : FnOk P w K mg base CX0 1 T.a_law_shape T.d_law_shape ["kind", "own", "other", "third"] spShape := by
  refine T.F_law_shape.ok sc_law_shape (fun vs H Q E h => ?_) (fun cdv A outer s H vs Q E hr h => ?_)
  · obtain ⟨k, own, other, third, rfl, _⟩ := h; rfl
  · obtain ⟨k, own, other, third, rfl, o1, o2, o3, q⟩ := h
    refine ⟨_, (pss_cons (ps_asg (pe_tupG (pa_cons (pe_tupG (pa_cons pe_str pa_nil)) (pa_cons (pe_tupG (pa_cons pe_str (pa_cons pe_str pa_nil))) pa_nil))) (pg_tup rfl (pgs_cons (pg_name (i := 4) sc_law_shape.nd rfl (Or.inl rfl)) (pgs_cons (pg_name (i := 5) sc_law_shape.nd rfl (Or.inl rfl)) pgs_nil))))
    (pss_cons (ps_set (i := 6) sc_law_shape.nd rfl (Or.inl rfl) (pe_tupG (pa_cons (pe_tupG (pa_cons (pv 2) (pa_cons pe_str pa_nil))) pa_nil)))
    (pss_cons (ps_if (pt_cmpR op_eq (pv 0) pe_int (nomark _)) (pss_one (ps_ret (pe_lst (pa_cons (pe_tupG (pa_cons (pe_tupG pa_nil) (pa_cons (pv 4) pa_nil))) (pa_cons (pe_tupG (pa_cons (pe_tupG (pa_cons (pe_tupG (pa_cons (pv 1) (pa_cons pe_str pa_nil))) pa_nil)) (pa_cons (pv 5) pa_nil))) pa_nil))))) pss_nil)
    (pss_cons (ps_if (pt_cmpR op_eq (pv 0) pe_int (nomark _)) (pss_one (ps_ret (pe_lst (pa_cons (pe_tupG (pa_cons (pe_tupG pa_nil) (pa_cons (pv 4) pa_nil))) pa_nil)))) pss_nil)
    (pss_cons (ps_if (pt_cmpR op_eq (pv 0) pe_int (nomark _)) (pss_one (ps_ret (pe_lst (pa_cons (pe_tupG (pa_cons (pv 6) (pa_cons (pv 5) pa_nil))) pa_nil)))) pss_nil)
    (pss_cons (ps_if (pt_cmpR op_eq (pv 0) pe_int (nomark _)) (pss_one (ps_ret (pe_lst (pa_cons (pe_tupG (pa_cons (pv 6) (pa_cons (pv 5) pa_nil))) (pa_cons (pe_tupG (pa_cons (pe_tupG (pa_cons (pe_tupG (pa_cons (pv 1) (pa_cons pe_str pa_nil))) pa_nil)) (pa_cons (pv 5) pa_nil))) pa_nil))))) pss_nil)
    (pss_cons (ps_if (pt_cmpR op_eq (pv 0) pe_int (nomark _)) (pss_one (ps_ret (pe_lst (pa_cons (pe_tupG (pa_cons (pe_tupG pa_nil) (pa_cons (pv 4) pa_nil))) (pa_cons (pe_tupG (pa_cons (pe_tupG (pa_cons (pe_tupG (pa_cons (pv 2) (pa_cons (pv 4) pa_nil))) (pa_cons (pe_tupG (pa_cons (pv 1) (pa_cons pe_str pa_nil))) pa_nil))) (pa_cons (pv 5) pa_nil))) pa_nil))))) pss_nil)
    (pss_cons (ps_if (pt_cmpR op_eq (pv 0) pe_int (nomark _)) (pss_one (ps_ret (pe_lst (pa_cons (pe_tupG (pa_cons (pe_tupG pa_nil) (pa_cons (pv 4) pa_nil))) (pa_cons (pe_tupG (pa_cons (pv 6) (pa_cons (pv 5) pa_nil))) pa_nil))))) pss_nil)
    (pss_cons (ps_if (pt_cmpR op_eq (pv 0) pe_int (nomark _)) (pss_one (ps_ret (pe_lst (pa_cons (pe_tupG (pa_cons (pe_tupG (pa_cons (pe_tupG (pa_cons (pv 2) (pa_cons (pv 5) pa_nil))) pa_nil)) (pa_cons pe_str pa_nil))) pa_nil)))) pss_nil)
    (pss_cons (ps_if (pt_cmpR op_eq (pv 0) pe_int (nomark _)) (pss_one (ps_ret (pe_lst (pa_cons (pe_tupG (pa_cons (pe_tupG (pa_cons (pe_tupG (pa_cons (pv 2) (pa_cons pe_str pa_nil))) (pa_cons (pe_tupG (pa_cons (pv 3) (pa_cons pe_str pa_nil))) pa_nil))) (pa_cons (pv 5) pa_nil))) pa_nil)))) pss_nil)
    (pss_cons (ps_if (pt_cmpR op_eq (pv 0) pe_int (nomark _)) (pss_one (ps_ret (pe_lst (pa_cons (pe_tupG (pa_cons (pe_tupG (pa_cons (pe_tupG (pa_cons (pv 2) (pa_cons pe_str pa_nil))) (pa_cons (pe_tupG (pa_cons (pv 3) (pa_cons pe_str pa_nil))) pa_nil))) (pa_cons (pv 4) pa_nil))) pa_nil)))) pss_nil)
    (pss_cons (ps_if (pt_cmpR op_eq (pv 0) pe_int (nomark _)) (pss_one (ps_ret (pe_lst (pa_cons (pe_tupG (pa_cons (pe_tupG (pa_cons (pe_tupG (pa_cons (pv 1) (pa_cons pe_str pa_nil))) pa_nil)) (pa_cons (pv 5) pa_nil))) pa_nil)))) pss_nil)
    (pss_cons (ps_if (pt_cmpR op_eq (pv 0) pe_int (nomark _)) (pss_one (ps_ret (pe_lst (pa_cons (pe_tupG (pa_cons (pe_tupG pa_nil) (pa_cons (pv 4) pa_nil))) (pa_cons (pe_tupG (pa_cons (pv 6) (pa_cons (pv 5) pa_nil))) (pa_cons (pe_tupG (pa_cons (pe_tupG (pa_cons (pe_tupG (pa_cons (pv 3) (pa_cons pe_str pa_nil))) pa_nil)) (pa_cons (pv 5) pa_nil))) pa_nil)))))) pss_nil)
    (pss_cons (ps_if (pt_cmpR op_eq (pv 0) pe_int (nomark _)) (pss_cons (ps_set (i := 7) sc_law_shape.nd rfl (Or.inl rfl) (pe_tupG (pa_cons pe_str (pa_cons pe_str (pa_cons pe_str pa_nil)))))
    (pss_one (ps_ret (pe_lst (pa_cons (pe_tupG (pa_cons (pe_tupG pa_nil) (pa_cons (pv 4) pa_nil))) (pa_cons (pe_tupG (pa_cons (pe_tupG (pa_cons (pe_tupG (pa_cons (pv 1) (pa_cons pe_str pa_nil))) (pa_cons (pe_tupG (pa_cons (pv 2) (pa_cons pe_str pa_nil))) pa_nil))) (pa_cons (pv 7) pa_nil))) (pa_cons (pe_tupG (pa_cons (pe_tupG (pa_cons (pe_tupG (pa_cons (pv 1) (pa_cons (pv 7) pa_nil))) pa_nil)) (pa_cons pe_str pa_nil))) pa_nil))))))) pss_nil)
    (pss_cons (ps_if (pt_cmpR op_eq (pv 0) pe_int (nomark _)) (pss_one (ps_ret (pe_lst (pa_cons (pe_tupG (pa_cons (pe_tupG pa_nil) (pa_cons (pv 4) pa_nil))) (pa_cons (pe_tupG (pa_cons (pe_tupG (pa_cons (pe_tupG (pa_cons (pv 1) (pa_cons pe_str pa_nil))) pa_nil)) (pa_cons (pv 5) pa_nil))) (pa_cons (pe_tupG (pa_cons (pe_tupG (pa_cons (pe_tupG (pa_cons (pv 1) (pa_cons (pv 5) pa_nil))) pa_nil)) (pa_cons pe_str pa_nil))) pa_nil)))))) pss_nil)
    (pss_cons (ps_if (pt_cmpR op_eq (pv 0) pe_int (nomark _)) (pss_one (ps_ret (pe_lst (pa_cons (pe_tupG (pa_cons (pe_tupG pa_nil) (pa_cons (pe_tupG (pa_cons pe_str pa_nil)) pa_nil))) (pa_cons (pe_tupG (pa_cons (pv 6) (pa_cons (pv 5) pa_nil))) pa_nil))))) pss_nil)
    (pss_one (ps_ret (pe_lst (pa_cons (pe_tupG (pa_cons (pe_tupG pa_nil) (pa_cons (pv 4) pa_nil))) (pa_cons (pe_tupG (pa_cons (pe_tupG (pa_cons (pe_tupG (pa_cons (pv 1) (pa_cons pe_str pa_nil))) (pa_cons (pe_tupG (pa_cons (pv 2) (pa_cons pe_str pa_nil))) pa_nil))) (pa_cons (pv 5) pa_nil))) pa_nil))))))))))))))))))))), ?_⟩
    have v1 : Is H (.str own) (.str own) := .str _ o1
    have v2 : Is H (.str other) (.str other) := .str _ o2
    have v3 : Is H (.str third) (.str third) := .str _ o3
    refine go_asg (t := .tup [tz, ts_]) ?_ fun v H1 s1 i1 => ?_
    · (repeat (first | exact mk_nil | refine mk_cons ?_ ?_ | refine mk_tup ?_ (by simp) | exact mk_str (by decide +kernel) | (refine mk_var rfl ?_; assumption)))
    obtain ⟨a, vs, rfl, ea, hL⟩ := i1.tup_inv
    cases hL with
    | @cons vz _ _ _ iz hL =>
    cases hL with
    | @cons vn _ _ _ inn hL =>
    cases hL
    refine ⟨a, _, rfl, ea.sq, rfl, vz, _, rfl, vn, _, rfl, rfl, ?_⟩
    have v1 := v1.same s1
    have v2 := v2.same s1
    have v3 := v3.same s1
    refine go_asg (t := .tup [prPV (other, nn)]) ?_ fun vg H2 s2 ig => ?_
    · (repeat (first | exact mk_nil | refine mk_cons ?_ ?_ | refine mk_tup ?_ (by simp) | exact mk_str (by decide +kernel) | (refine mk_var rfl ?_; assumption)))
    have v1 := v1.same s2
    have v2 := v2.same s2
    have v3 := v3.same s2
    have iz := iz.same s2
    have inn := inn.same s2
    have s12 := s1.trans s2
    have fin : ∀ {ta : TA} {rows : List Row} {σ : L2.St}, shape k own other third = rows → rows.length ≤ 3 → MkA σ H2 ta (rows.map rowPV) → tLst ta σ H2 Q := fun {ta rows σ} e hl m =>
      mk_list m (.refl _) (by rw [List.length_map]; omega) fun l us H' l0 s' el il => q l us H' (s12.free l0) (s12.trans s') el (by rw [e]; exact il)
    have nm := fun (j : Int) (l r : List Row) (h : k = j) => (if_pos h : (if k = j then l else r) = l)
    refine go_kind rfl (fun h0 => fin (rows := [⟨[], tz⟩, ⟨[(own, nn)], ts_⟩]) (by subst h0; rfl) (Nat.le_of_ble_eq_true rfl) ?_) fun h0 => ?_
    · (repeat (first | exact mk_nil | refine mk_cons ?_ ?_ | refine mk_tup ?_ (by simp) | exact mk_str (by decide +kernel) | (refine mk_var rfl ?_; assumption)))
    refine go_kind rfl (fun h1 => fin (rows := [⟨[], tz⟩]) (by subst h1; rfl) (Nat.le_of_ble_eq_true rfl) ?_) fun h1 => ?_
    · (repeat (first | exact mk_nil | refine mk_cons ?_ ?_ | refine mk_tup ?_ (by simp) | exact mk_str (by decide +kernel) | (refine mk_var rfl ?_; assumption)))
    refine go_kind rfl (fun h2 => fin (rows := [⟨[(other, nn)], ts_⟩]) (by subst h2; rfl) (Nat.le_of_ble_eq_true rfl) ?_) fun h2 => ?_
    · (repeat (first | exact mk_nil | refine mk_cons ?_ ?_ | refine mk_tup ?_ (by simp) | exact mk_str (by decide +kernel) | (refine mk_var rfl ?_; assumption)))
    refine go_kind rfl (fun h3 => fin (rows := [⟨[(other, nn)], ts_⟩, ⟨[(own, nn)], ts_⟩]) (by subst h3; rfl) (Nat.le_of_ble_eq_true rfl) ?_) fun h3 => ?_
    · (repeat (first | exact mk_nil | refine mk_cons ?_ ?_ | refine mk_tup ?_ (by simp) | exact mk_str (by decide +kernel) | (refine mk_var rfl ?_; assumption)))
    refine go_kind rfl (fun h4 => fin (rows := [⟨[], tz⟩, ⟨[(other, tz), (own, nn)], ts_⟩]) (by subst h4; rfl) (Nat.le_of_ble_eq_true rfl) ?_) fun h4 => ?_
    · (repeat (first | exact mk_nil | refine mk_cons ?_ ?_ | refine mk_tup ?_ (by simp) | exact mk_str (by decide +kernel) | (refine mk_var rfl ?_; assumption)))
    refine go_kind rfl (fun h5 => fin (rows := [⟨[], tz⟩, ⟨[(other, nn)], ts_⟩]) (by subst h5; rfl) (Nat.le_of_ble_eq_true rfl) ?_) fun h5 => ?_
    · (repeat (first | exact mk_nil | refine mk_cons ?_ ?_ | refine mk_tup ?_ (by simp) | exact mk_str (by decide +kernel) | (refine mk_var rfl ?_; assumption)))
    refine go_kind rfl (fun h6 => fin (rows := [⟨[(other, ts_)], nn⟩]) (by subst h6; rfl) (Nat.le_of_ble_eq_true rfl) ?_) fun h6 => ?_
    · (repeat (first | exact mk_nil | refine mk_cons ?_ ?_ | refine mk_tup ?_ (by simp) | exact mk_str (by decide +kernel) | (refine mk_var rfl ?_; assumption)))
    refine go_kind rfl (fun h7 => fin (rows := [⟨[(other, nn), (third, nn)], ts_⟩]) (by subst h7; rfl) (Nat.le_of_ble_eq_true rfl) ?_) fun h7 => ?_
    · (repeat (first | exact mk_nil | refine mk_cons ?_ ?_ | refine mk_tup ?_ (by simp) | exact mk_str (by decide +kernel) | (refine mk_var rfl ?_; assumption)))
    refine go_kind rfl (fun h8 => fin (rows := [⟨[(other, nn), (third, nn)], tz⟩]) (by subst h8; rfl) (Nat.le_of_ble_eq_true rfl) ?_) fun h8 => ?_
    · (repeat (first | exact mk_nil | refine mk_cons ?_ ?_ | refine mk_tup ?_ (by simp) | exact mk_str (by decide +kernel) | (refine mk_var rfl ?_; assumption)))
    refine go_kind rfl (fun h9 => fin (rows := [⟨[(own, nn)], ts_⟩]) (by subst h9; rfl) (Nat.le_of_ble_eq_true rfl) ?_) fun h9 => ?_
    · (repeat (first | exact mk_nil | refine mk_cons ?_ ?_ | refine mk_tup ?_ (by simp) | exact mk_str (by decide +kernel) | (refine mk_var rfl ?_; assumption)))
    refine go_kind rfl (fun h10 => fin (rows := [⟨[], tz⟩, ⟨[(other, nn)], ts_⟩, ⟨[(third, nn)], ts_⟩]) (by subst h10; rfl) (Nat.le_of_ble_eq_true rfl) ?_) fun h10 => ?_
    · (repeat (first | exact mk_nil | refine mk_cons ?_ ?_ | refine mk_tup ?_ (by simp) | exact mk_str (by decide +kernel) | (refine mk_var rfl ?_; assumption)))
    refine go_kindB rfl (fun h11 => ?_) fun h11 => ?_
    · refine go_asg (t := tp_) ?_ fun vp H3 s3 ip => ?_
      · (repeat (first | exact mk_nil | refine mk_cons ?_ ?_ | refine mk_tup ?_ (by simp) | exact mk_str (by decide +kernel) | (refine mk_var rfl ?_; assumption)))
      have v1 := v1.same s3
      have v2 := v2.same s3
      have iz := iz.same s3
      have inn := inn.same s3
      refine mk_list (ts := [⟨[], tz⟩, ⟨[(own, nn), (other, .str "m")], tp_⟩, ⟨[(own, tp_)], nn⟩].map rowPV) ?_ (.refl _) (by rw [List.length_map]; exact Nat.le_of_ble_eq_true rfl) fun l us H' l0 s' el il => q l us H' ((s12.trans s3).free l0) ((s12.trans s3).trans s') el (by rw [show shape k own other third = _ from by subst h11; rfl]; exact il)
      (repeat (first | exact mk_nil | refine mk_cons ?_ ?_ | refine mk_tup ?_ (by simp) | exact mk_str (by decide +kernel) | (refine mk_var rfl ?_; assumption)))
    refine go_kind rfl (fun h12 => fin (rows := [⟨[], tz⟩, ⟨[(own, nn)], ts_⟩, ⟨[(own, ts_)], nn⟩]) (by subst h12; rfl) (Nat.le_of_ble_eq_true rfl) ?_) fun h12 => ?_
    · (repeat (first | exact mk_nil | refine mk_cons ?_ ?_ | refine mk_tup ?_ (by simp) | exact mk_str (by decide +kernel) | (refine mk_var rfl ?_; assumption)))
    refine go_kind rfl (fun h13 => fin (rows := [⟨[], .tup [.str "o"]⟩, ⟨[(other, nn)], ts_⟩]) (by subst h13; rfl) (Nat.le_of_ble_eq_true rfl) ?_) fun h13 => ?_
    · (repeat (first | exact mk_nil | refine mk_cons ?_ ?_ | refine mk_tup ?_ (by simp) | exact mk_str (by decide +kernel) | (refine mk_var rfl ?_; assumption)))
    refine fin (rows := [⟨[], tz⟩, ⟨[(own, nn), (other, .str "m")], ts_⟩]) ?_ (Nat.le_of_ble_eq_true rfl) ?_
    · unfold shape
      simp only [h0, h1, h2, h3, h4, h5, h6, h7, h8, h9, h10, h11, h12, h13, if_false]
    · (repeat (first | exact mk_nil | refine mk_cons ?_ ?_ | refine mk_tup ?_ (by simp) | exact mk_str (by decide +kernel) | (refine mk_var rfl ?_; assumption)))
end
end Kx
namespace Kx
open PySem PySem.Spec PyProof.Rows L2
section
variable {P : Program} {w : World} {K : PySem.W.Frag} {mg : Str → Option Value} {base : Heap}
structure Con where
  w : Str
  ps : List (Str × PV)
  fam : Str
  ix : PV
def conPV (c : Con) : PV := .tup [.str c.w, .tup (c.ps.map prPV), .str c.fam, c.ix]
def tabPV (mk : List PV) (F : List Str) (cs : List Con) : PV := .tup [.str "table", .tup mk, .tup (F.map PV.str), .tup (cs.map conPV)]
def kw (i : Nat) : Str := ("K" : Str) ++ (toString ((i : Nat) : Int))
def fams : List Str := ["Fa", "Fb", "Fc", "Fd"]
structure ConsG (F : List Str) (cs : List Con) : Prop where
  word : ∀ i c, cs[i]? = some c → c.w = kw i
  row : ∀ c ∈ cs, RowG F ⟨c.ps, c.ix⟩ ∧ c.fam ∈ F
/-- the table as it is drawn -/
structure TabK (F : List Str) (cs : List Con) : Prop where
  cons : ConsG F cs
  len : 1 ≤ cs.length ∧ cs.length ≤ 12
  fl : 2 ≤ F.length ∧ F.length ≤ 4
  ok : ∀ z ∈ F, sok z = true
  ll : ∀ z ∈ F, z.length ≤ 100
theorem kw_ok : ∀ i, i < 12 → sok (kw i) = true := by decide +kernel
theorem kw_ll : ∀ i, i < 12 → (kw i).length ≤ 100 := by decide +kernel
theorem fams_ll : ∀ z ∈ fams, z.length ≤ 100 := by decide +kernel
def MkOk (mk : List PV) : Prop := mk.length ≤ 4 ∧ ∀ t ∈ mk, OkW 16 2 t
theorem ok_str {z : Str} (n : Nat) (h : z.length ≤ 100) : OkW 16 (n + 1) (.str z) := h
theorem tab_ok {mk : List PV} {F : List Str} {cs : List Con} (m : MkOk mk) (T : TabK F cs) : OkW 16 8 (tabPV mk F cs) := by
  refine ⟨by simp, fun t ht => ?_⟩
  simp only [List.mem_cons, List.not_mem_nil, or_false] at ht
  rcases ht with rfl | rfl | rfl | rfl
  · exact ok_str 6 (by decide +kernel)
  · exact ⟨Nat.le_trans m.1 (by decide), fun t ht => (m.2 t ht).mono (by decide)⟩
  · refine ⟨by rw [List.length_map]; have := T.fl.2; omega, fun t ht => ?_⟩
    obtain ⟨z, hz, rfl⟩ := List.mem_map.mp ht
    exact ok_str 5 (T.ll z hz)
  · refine ⟨by rw [List.length_map]; have := T.len.2; omega, fun t ht => ?_⟩
    obtain ⟨c, hc, rfl⟩ := List.mem_map.mp ht
    obtain ⟨rg, hf⟩ := T.cons.row c hc
    obtain ⟨i, hi⟩ := List.getElem?_of_mem hc
    have hw := T.cons.word i c hi
    have hi12 : i < 12 := by have := (List.getElem?_eq_some_iff.mp hi).1; have := T.len.2; omega
    refine ⟨by simp, fun t ht => ?_⟩
    simp only [List.mem_cons, List.not_mem_nil, or_false] at ht
    rcases ht with rfl | rfl | rfl | rfl
    · exact ok_str 4 (by rw [hw]; exact kw_ll i hi12)
    · refine ⟨by rw [List.length_map]; have := rg.len; simp only at this; omega, fun t ht => ?_⟩
      obtain ⟨p, hp, rfl⟩ := List.mem_map.mp ht
      obtain ⟨h1, h2⟩ := rg.ps p hp
      refine ⟨by simp, fun t ht => ?_⟩
      simp only [List.mem_cons, List.not_mem_nil, or_false] at ht
      rcases ht with rfl | rfl
      · exact ok_str 2 (T.ll _ h1)
      · exact h2
    · exact ok_str 4 (T.ll _ hf)
    · exact rg.ix.mono (by decide)
theorem TupF.ex {d c : Addr} {H H' : Hp} (x : Ex d c H H') (h : Dr H d c) {a : Addr} {vs : List V} (e : TupF H a vs) : TupF H' a vs := e.elim fun o z => ⟨o, x.keep h z.1 (fun xs q => by cases q), z.2⟩
theorem fams_ok : ∀ z ∈ fams, sok z = true := by decide +kernel
theorem Ex.own {d c l : Addr} {H H1 : Hp} (x : Ex d c H H1) (hl : H l = none) (o : HO) : Ex d c H (upd H1 l o) :=
  ⟨fun b u n n2 h => by rw [upd_ne (ne_of_none h hl)]; exact x.but b u n n2 h, fun ⟨xs, e⟩ => by rw [upd_ne (ne_of_none e hl)]; exact x.l1 ⟨xs, e⟩, fun ⟨xs, e⟩ => by rw [upd_ne (ne_of_none e hl)]; exact x.l2 ⟨xs, e⟩⟩
mutual
/-- a list is written -/
theorem Is.wr {H : Hp} {l : Addr} {xs ys : List V} (e : H l = some (.lst xs)) : ∀ {v : V} {t : PV}, Is H v t → Is (upd H l (.lst ys)) v t
  | _, _, .str z k => .str z k
  | _, _, .non => .non
  | _, _, .bl b => .bl b
  | _, _, .int i => .int i
  | _, _, .lst (a := a) q => by
    by_cases h : a = l
    · subst h; exact .lst ⟨ys, upd_same⟩
    · obtain ⟨zs, q⟩ := q; exact .lst ⟨zs, by rw [upd_ne h]; exact q⟩
  | _, _, .dict (a := a) (kvs := kvs) q => .dict (kvs := kvs) (by rw [upd_ne fun z => by rw [z, e] at q; cases q]; exact q)
  | _, _, .tup q r => .tup (q.elim fun o z => ⟨o, Tu.lst e ys _ _ z.1 (fun _ z => by cases z) (fun _ z => by cases z), z.2⟩) (IsL.wr e r)
theorem IsL.wr {H : Hp} {l : Addr} {xs ys : List V} (e : H l = some (.lst xs)) : ∀ {v : List V} {t : List PV}, IsL H v t → IsL (upd H l (.lst ys)) v t
  | _, _, .nil => .nil
  | _, _, .cons a r => .cons (Is.wr e a) (IsL.wr e r)
end
theorem mk_int {σ : L2.St} {H0 : Hp} (i : Int) : MkE σ H0 (tC (.int i)) (.oth (.int i)) := fun H Q s q => q _ H (.refl _) (.int i)
theorem go_sl {σ : L2.St} {H : Hp} {te : TE} {tl th : TO} {r : V → Option Int → Option Int → Hp → VK → Prop} {t : PV} {g : TG} {D : Ends} (m : MkE σ H te t) (q : ∀ v H1, Same H H1 → Is H1 v t → tl σ H1 fun lo H2 => th σ H2 fun hi H3 => r v lo hi H3 fun x H4 => g x σ H4 D.nx) : tAsg (tSl r te tl th) g D σ H := m H _ (.refl _) q
theorem Ex.free {d c l : Addr} {H H' : Hp} (x : Ex d c H H') (h : Dr H' d c) (e : H' l = none) : H l = none := by
  obtain ⟨n1, n2⟩ := h.free e
  cases q : H l with
  | none => rfl
  | some o => have := x.but l o n1 n2 q; rw [e] at this; cases this
theorem num_log : ∀ n : Nat, n < 12 → ((n : Nat) : Int).natAbs.log2 < 1920 := by decide +kernel
theorem num_len : ∀ n : Nat, n < 12 → ("K" : Str).length + (toString ((n : Nat) : Int) : Str).length ≤ sizeLine := by decide +kernel
def spTable : Sp := fun vs H Q _ => ∃ (d c : Addr), vs = [.ref d] ∧ Dr H d c ∧ ∀ v H' mk F cs, Is H' v (tabPV mk F cs) → MkOk mk → TabK F cs → Ex d c H H' → Dr H' d c → Q v H'
theorem ok_law_table (T : Txt K mg) (G_law_draw : FnOk P w K mg base CX0 1 T.a_law_draw T.d_law_draw ["state", "many"] spDraw) (G_law_pick : FnOk P w K mg base CX0 2 T.a_law_pick T.d_law_pick ["state", "row"] (spPick K)) (G_law_shape : FnOk P w K mg base CX0 1 T.a_law_shape T.d_law_shape ["kind", "own", "other", "third"] spShape) : FnOk P w K mg base CX0 3 T.a_law_table T.d_law_table ["state"] spTable := by
  refine T.F_law_table.ok sc_law_table (fun vs H Q E h => ?_) (fun cdv A outer s H vs Q E hr h => ?_)
  · obtain ⟨d, c, rfl, _⟩ := h; rfl
  · obtain ⟨d, c, rfl, hD, q⟩ := h
    have hr_law_draw : Room 1 _ := hr.mono (by decide)
    have hr_law_pick := hr
    have hr_law_shape : Room 1 _ := hr.mono (by decide)
    refine ⟨_, (Evl.pss_cut (ps_set (i := 1) sc_law_table.nd rfl (Or.inl rfl) (pe_slice sl_tupG (pe_tupG (pa_cons (pe_tupG (pa_cons pe_str (pa_cons pe_int pa_nil))) (pa_cons (pe_tupG (pa_cons pe_str (pa_cons pe_int pa_nil))) (pa_cons (pe_tupG (pa_cons pe_str (pa_cons pe_int pa_nil))) (pa_cons (pe_tupG (pa_cons pe_str (pa_cons pe_int pa_nil))) pa_nil))))) po_none (po_some (pe_ix ix_list (pe_lst (pa_cons pe_int (pa_cons pe_int (pa_cons pe_int pa_nil)))) (pe_call G_law_draw hr_law_draw rfl T.m_law_draw T.F_law_draw.kp T.b_law_draw .nil pass0 (pa_cons (pv 0) (pa_cons pe_int pa_nil))) (fun _ _ => rfl)))))
    (Evl.pss_cut (ps_set (i := 2) sc_law_table.nd rfl (Or.inl rfl) (pe_slice sl_list (pe_lst (pa_cons pe_str (pa_cons pe_str (pa_cons pe_str (pa_cons pe_str pa_nil))))) po_none (po_some (pe_op op_add pe_int (pe_call G_law_draw hr_law_draw rfl T.m_law_draw T.F_law_draw.kp T.b_law_draw .nil pass0 (pa_cons (pv 0) (pa_cons pe_int pa_nil)))))))
    (pss_cons (ps_set (i := 3) sc_law_table.nd rfl (Or.inl rfl) (pe_lst pa_nil))
    (Evl.pss_cut (ps_for PassesOwn.never rfl (pi_list (pv 2)) (pg_name (i := 4) sc_law_table.nd rfl (Or.inl rfl))
    (pss_cons (ps_set (i := 5) sc_law_table.nd rfl (Or.inl rfl) (pe_call G_law_draw hr_law_draw rfl T.m_law_draw T.F_law_draw.kp T.b_law_draw .nil pass0 (pa_cons (pv 0) (pa_cons pe_int pa_nil))))
    (Evl.pss_cut (ps_if (PW.pt (pw_and (pt_cmpR op_lt (pe_callB call_len_seq (by rfl) T.z_len (by decide +kernel) (pa_cons (pv 1) pa_nil)) pe_int (nomark _)) (pw_and1 (pt_cmpR op_in_seq (pv 5) (pe_tupG (pa_cons pe_int (pa_cons pe_int pa_nil))) (by rfl))))) (pss_one (ps_set (i := 5) sc_law_table.nd rfl (Or.inl rfl) pe_int)) pss_nil)
    (pss_one (ps_for PassesOwn.never rfl (pi_list (pe_call G_law_shape hr_law_shape rfl T.m_law_shape T.F_law_shape.kp T.b_law_shape .nil pass0 (pa_cons (pv 5) (pa_cons (pv 4) (pa_cons (pe_call G_law_pick hr_law_pick rfl T.m_law_pick T.F_law_pick.kp T.b_law_pick .nil pass0 (pa_cons (pv 0) (pa_cons (pv 2) pa_nil))) (pa_cons (pe_call G_law_pick hr_law_pick rfl T.m_law_pick T.F_law_pick.kp T.b_law_pick .nil pass0 (pa_cons (pv 0) (pa_cons (pv 2) pa_nil))) pa_nil)))))) (pg_tup rfl (pgs_cons (pg_name (i := 6) sc_law_table.nd rfl (Or.inl rfl)) (pgs_cons (pg_name (i := 7) sc_law_table.nd rfl (Or.inl rfl)) pgs_nil)))
    (pss_one (ps_expr (pe_bm PySem.F.plainAttrs_list PySem.F.slot_list_append PySem.F.type_list_append mt_append (pv 3) (pa_cons (pe_tupG (pa_cons (pe_op op_add_str pe_str (pe_callTy call_str_int (by rfl) T.z_str (by decide +kernel) (pa_cons (pe_callB call_len_seq (by rfl) T.z_len (by decide +kernel) (pa_cons (pv 3) pa_nil)) pa_nil))) (pa_cons (pv 6) (pa_cons (pv 4) (pa_cons (pv 7) pa_nil))))) pa_nil)))))))))
    (pss_one (ps_ret (pe_tupG (pa_cons pe_str (pa_cons (pv 1) (pa_cons (pe_callTy call_tupleG (by rfl) T.z_tuple (by decide +kernel) (pa_cons (pv 2) pa_nil)) (pa_cons (pe_callTy call_tupleG (by rfl) T.z_tuple (by decide +kernel) (pa_cons (pv 3) pa_nil)) pa_nil))))))))))), ?_⟩
    refine ⟨fun σ H' => ∃ (mb : Addr) (mk : List PV), σ = [some (.ref d), some (.ref mb), none, none, none, none, none, none] ∧ Is H' (.ref mb) (.tup mk) ∧ MkOk mk ∧ Dr H' d c ∧ Ex d c H H', ?_, ?_⟩
    · refine go_sl (t := .tup [.tup [.str "z", .oth (.int 0)], .tup [.str "s", .oth (.int 1)], .tup [.str "p", .oth (.int 2)], .tup [.str "o", .oth (.int 0)]]) ?_ fun vm H1 s1 im => ?_
      · (repeat (first | exact mk_nil | refine mk_cons ?_ ?_ | refine mk_tup ?_ (by simp) | exact mk_str (by decide +kernel) | exact mk_int _))
      obtain ⟨ma, mvs, rfl, em, imL⟩ := im.tup_inv
      refine ⟨(by show 3 ≤ sizeLine; decide), fun nl hnl => ?_⟩
      have s2 := same_upd hnl (.lst [.int 2, .int 2, .int 4])
      have nlf : H nl = none := s1.free hnl
      obtain ⟨nd1, nc1⟩ := hD.free nlf
      have D2 := (hD.same s1).same s2
      refine ⟨_, rfl, d, c, 3, rfl, D2, by omega, by omega, fun r H3 r0 r1 x3 hD3 => ?_⟩
      have el3 : H3 nl = some (.lst [.int 2, .int 2, .int 4]) := x3.but _ _ nd1 nc1 upd_same
      have em3 : TupF H3 ma mvs := TupF.ex x3 D2 (em.same s2)
      have imL3 := (imL.same s2).ex x3 D2
      have xx : Ex d c H H3 := (Ex.of (s1.trans s2)).trans x3
      have at3 : ∃ k : Nat, atI [V.int 2, V.int 2, V.int 4] r = some (.int (k : Int)) ∧ k ≤ 4 := by
        rcases (show r = 0 ∨ r = 1 ∨ r = 2 by omega) with rfl | rfl | rfl
        · exact ⟨2, rfl, by decide⟩
        · exact ⟨2, rfl, by decide⟩
        · exact ⟨4, rfl, by decide⟩
      obtain ⟨k, atk, hk⟩ := at3
      refine ⟨nl, _, _, _, rfl, rfl, SqL.of el3, atk, _, rfl, ma, mvs, rfl, em3, fun p H4 s4 e4 => ?_⟩
      have lm := imL3.len
      have ic := (imL3.same s4).take k
      rw [cut_to mvs (by rw [lm]; exact hk)] at e4
      refine ⟨p, _, rfl, .tup e4 ic, ⟨Nat.le_trans (List.length_take_le ..) hk, fun t ht => ?_⟩, hD3.same s4, xx.trans (.of s4)⟩
      exact (by decide +kernel : ∀ t ∈ [PV.tup [.str "z", .oth (.int 0)], .tup [.str "s", .oth (.int 1)], .tup [.str "p", .oth (.int 2)], .tup [.str "o", .oth (.int 0)]], OkW 16 2 t) t (List.mem_of_mem_take ht)
    · rintro σ H1 ⟨mb, mk, rfl, imk, hmk, hD1, x1⟩
      refine ⟨fun σ H' => ∃ (fl : Addr) (F : List Str), σ = [some (.ref d), some (.ref mb), some (.ref fl), none, none, none, none, none] ∧ Is H' (.ref mb) (.tup mk) ∧ Dr H' d c ∧ Ex d c H H' ∧ H' fl = some (.lst (F.map V.str)) ∧ H fl = none ∧ 2 ≤ F.length ∧ F.length ≤ 4 ∧ ((∀ z ∈ F, z.length ≤ 100) ∧ ∀ z ∈ F, sok z = true), ?_, ?_⟩
      · refine ⟨(by show 4 ≤ sizeLine; decide), fun l0 hl0 => ?_⟩
        have s2 := same_upd hl0 (.lst (fams.map V.str))
        have D2 := hD1.same s2
        obtain ⟨nd1, nc1⟩ := hD1.free hl0
        refine ⟨_, rfl, d, c, 3, rfl, D2, by omega, by omega, fun r H3 r0 r1 x3 hD3 => ⟨_, _, rfl, rfl, _, rfl, l0, fams.map V.str, rfl, SqL.of (x3.but _ _ nd1 nc1 upd_same), fun fl hfl => ?_⟩⟩
        have s4 := same_upd hfl (.lst (cutV (fams.map V.str) none (some (2 + r))))
        have ek : (2 + r : Int) = ((2 + r.toNat : Nat) : Int) := by omega
        have hk : 2 + r.toNat ≤ fams.length := by show _ ≤ 4; omega
        have xx : Ex d c H (upd H3 fl (.lst (cutV (fams.map V.str) none (some (2 + r))))) := ((x1.trans (.of s2)).trans x3).trans (.of s4)
        refine ⟨fl, fams.take (2 + r.toNat), rfl, ((imk.same s2).ex x3 D2).same s4, hD3.same s4, xx, ?_, ?_, ?_, ?_, fun z hz => fams_ll z (List.mem_of_mem_take hz), fun z hz => fams_ok z (List.mem_of_mem_take hz)⟩
        · rw [upd_same, ek, cut_to _ (by rw [List.length_map]; exact hk), List.map_take]
        · exact ((x1.trans (.of s2)).trans x3).free hD3 hfl
        · rw [List.length_take, Nat.min_eq_left hk]; omega
        · rw [List.length_take, Nat.min_eq_left hk]; omega
      · rintro σ H2 ⟨fl, F, rfl, imk2, hD2, x2, ef, ff, F2, F4, Fnd, Fok⟩
        obtain ⟨nfd, nfc⟩ : fl ≠ d ∧ fl ≠ c := by
          obtain ⟨h1, h2⟩ := hD.free ff
          exact ⟨h1, h2⟩
        refine ⟨by decide, fun cl hcl => ?_⟩
        have s3 := same_upd hcl (.lst [])
        obtain ⟨ncd, ncc⟩ := hD2.free hcl
        have nfl : cl ≠ fl := (ne_of_none ef hcl).symm
        have cfree : H cl = none := x2.free hD2 hcl
        refine ⟨fun σ H' => ∃ (y4 y5 y6 y7 : Option V) (vs : List V) (cs : List Con), σ = [some (.ref d), some (.ref mb), some (.ref fl), some (.ref cl), y4, y5, y6, y7] ∧ Is H' (.ref mb) (.tup mk) ∧ Dr H' d c ∧ Ex d c H H' ∧ H' fl = some (.lst (F.map V.str)) ∧ H' cl = some (.lst vs) ∧ IsL H' vs (cs.map conPV) ∧ ConsG F cs ∧ 1 ≤ cs.length ∧ cs.length ≤ 12, ?_, ?_⟩
        · refine ⟨_, rfl, fl, rfl, ⟨_, SqL.of (s3 _ _ ef)⟩, ?_⟩
          refine for_list (K := K) (a := fl) (xs := F.map V.str) (fun i σ H' => ∃ (y4 y5 y6 y7 : Option V) (vs : List V) (cs : List Con), σ = [some (.ref d), some (.ref mb), some (.ref fl), some (.ref cl), y4, y5, y6, y7] ∧ Is H' (.ref mb) (.tup mk) ∧ Dr H' d c ∧ Ex d c H H' ∧ H' fl = some (.lst (F.map V.str)) ∧ H' cl = some (.lst vs) ∧ IsL H' vs (cs.map conPV) ∧ ConsG F cs ∧ i ≤ cs.length ∧ cs.length ≤ 3 * i) ?_ ?_ ?_ ?_
          · exact ⟨_, _, _, _, [], [], rfl, imk2.same s3, hD2.same s3, x2.trans (.of s3), s3 _ _ ef, upd_same, .nil, ⟨fun i c e => by simp at e, fun c h => by cases h⟩, by simp, by simp⟩
          · exact fun i σ H' _ ⟨_, _, _, _, _, _, _, _, _, _, e, _⟩ => SqL.of e
          · rintro i x σ H3 hx ⟨y4, y5, y6, y7, vs, cs, rfl, imk3, hD3, x3, ef3, ec3, ic3, G, c1, c3⟩
            have hi := (List.getElem?_eq_some_iff.mp hx).1
            rw [List.length_map] at hi
            obtain ⟨own, hown, rfl⟩ := List.mem_map.mp (List.mem_of_getElem? hx)
            refine ⟨_, rfl, d, c, 15, rfl, hD3, by omega, by omega, fun r H4 r0 r1 x4 hD4 => ?_⟩
            have ef4 := x4.but _ _ nfd nfc ef3
            have ec4 := x4.but _ _ ncd ncc ec3
            refine ⟨fun σ H' => ∃ k : Int, σ = [some (.ref d), some (.ref mb), some (.ref fl), some (.ref cl), some (.str own), some (.int k), y6, y7] ∧ Same H4 H', ?_, ?_⟩
            · obtain ⟨mb', mvs, emb, em, iml⟩ := (imk3.ex x4 hD3).tup_inv
              cases emb
              refine ⟨_, rfl, mb, mvs, rfl, .inr em.sq, _, _, rfl, rfl, _, rfl, ite2 (fun _ => ?_) (fun _ => iteF ⟨_, rfl, .refl _⟩)⟩
              refine ⟨_, rfl, (by show 2 ≤ sizeLine; decide), fun p H5 hp sp ep => ⟨p, _, rfl, .inr ep.sq, rfl, rfl, _, rfl, ite2 (fun _ => ⟨0, rfl, sp⟩) (fun _ => ⟨_, rfl, sp⟩)⟩⟩
            · rintro σ H5 ⟨k, rfl, s5⟩
              have hD5 := hD4.same s5
              have ok1 := Fok own hown
              refine ⟨_, rfl, _, rfl, _, rfl, _, rfl, d, c, fl, F.map V.str, rfl, hD5, .inl (s5 _ _ ef4), nfd, nfc, by rw [List.length_map]; omega, by rw [List.length_map]; omega, fun w1 H6 hw1 x6 hD6 => ?_⟩
              obtain ⟨other, ho, rfl⟩ := List.mem_map.mp hw1
              have ef6 := x6.but _ _ nfd nfc (s5 _ _ ef4)
              refine ⟨_, rfl, _, rfl, d, c, fl, F.map V.str, rfl, hD6, .inl ef6, nfd, nfc, by rw [List.length_map]; omega, by rw [List.length_map]; omega, fun w2 H7 hw2 x7 hD7 => ?_⟩
              obtain ⟨third, ht, rfl⟩ := List.mem_map.mp hw2
              refine ⟨k, own, other, third, rfl, ok1, Fok _ ho, Fok _ ht, fun l us H8 l0 s8 el il => ?_⟩
              have ef8 := s8 _ _ (x7.but _ _ nfd nfc ef6)
              have ec8 := s8 _ _ (x7.but _ _ ncd ncc (x6.but _ _ ncd ncc (s5 _ _ ec4)))
              have ic8 := ((((ic3.ex x4 hD3).same s5).ex x6 hD5).ex x7 hD6).same s8
              have im8 := ((((imk3.ex x4 hD3).same s5).ex x6 hD5).ex x7 hD6).same s8
              have x8 := ((((x3.trans x4).trans (.of s5)).trans x6).trans x7).trans (.of s8)
              have hD8 := hD7.same s8
              obtain ⟨sg, sl1, sl3⟩ := shape_ok (k := k) hown ho ht
              obtain ⟨nld, nlc⟩ := hD7.free l0
              have nlcl : l ≠ cl := (ne_of_none (x7.but _ _ ncd ncc (x6.but _ _ ncd ncc (s5 _ _ ec4))) l0).symm
              have nlfl : fl ≠ cl := nfl.symm
              generalize hrows : shape k own other third = rows at il sg sl1 sl3
              refine ⟨l, rfl, ⟨_, SqL.of el⟩, ?_⟩
              have cl3 : cs.length ≤ 9 := by omega
              have ulen := il.len
              rw [List.length_map] at ulen
              refine for_list (K := K) (a := l) (xs := us) (fun j σ H' => ∃ (y6 y7 : Option V) (vs' : List V) (cs' : List Con), σ = [some (.ref d), some (.ref mb), some (.ref fl), some (.ref cl), some (.str own), some (.int k), y6, y7] ∧ Is H' (.ref mb) (.tup mk) ∧ Dr H' d c ∧ Ex d c H H' ∧ H' fl = some (.lst (F.map V.str)) ∧ H' cl = some (.lst vs') ∧ H' l = some (.lst us) ∧ IsL H' us (rows.map rowPV) ∧ IsL H' vs' (cs'.map conPV) ∧ ConsG F cs' ∧ cs'.length = cs.length + j) ?_ ?_ ?_ ?_
              · exact ⟨_, _, vs, cs, rfl, im8, hD8, x8, ef8, ec8, el, il, ic8, G, rfl⟩
              · exact fun j σ H' _ ⟨_, _, _, _, _, _, _, _, _, _, e, _⟩ => SqL.of e
              · rintro j x σ H9 hxj ⟨y6, y7, vs', cs', rfl, im9, hD9, x9, ef9, ec9, el9, il9, ic9, G9, len9⟩
                obtain ⟨y, ey, iy⟩ := il9.get hxj
                have hj := (List.getElem?_eq_some_iff.mp hxj).1
                have hj3 : j < 3 := by omega
                obtain ⟨row, hrow, rfl⟩ := List.mem_map.mp (List.mem_of_getElem? ey)
                obtain ⟨a, rvs, rfl, ea, iL⟩ := iy.tup_inv
                cases iL with
                | @cons pv_ _ _ _ ip iL =>
                cases iL with
                | @cons iv _ _ _ ii iL =>
                cases iL
                have vlen := ic9.len
                rw [List.length_map] at vlen
                have l12 : vs'.length < 12 := by omega
                refine ⟨a, _, rfl, ea.sq, rfl, pv_, _, rfl, iv, _, rfl, rfl, ?_⟩
                refine ⟨_, rfl, .inl ⟨rfl, _, SqL.of ec9⟩, _, rfl, cl, vs', rfl, .inl (SqL.of ec9), _, rfl, num_log _ l12, _, _, rfl, rfl, num_len _ l12, _, rfl, _, rfl, _, rfl, (by show 4 ≤ sizeLine; decide), fun p Hp_ hp sp ep => ?_⟩
                have ecp := sp _ _ ec9
                refine ⟨cl, vs', _, rfl, rfl, ecp, small1000 (by omega), _, _, vs' ++ [.ref p], cs' ++ [⟨kw vs'.length, row.ps, own, row.ix⟩], rfl, (im9.same sp).wr ecp, (hD9.same sp).own ncd ncc, (x9.trans (.of sp)).own cfree _, by rw [upd_ne nlfl]; exact sp _ _ ef9, upd_same, by rw [upd_ne nlcl]; exact sp _ _ el9, (il9.same sp).wr ecp, ?_, ?_, by rw [List.length_append, len9]; rfl⟩
                · rw [List.map_append]
                  refine ((ic9.same sp).wr ecp).append (.cons ?_ .nil)
                  refine Is.wr ecp (.tup ep (.cons (.str _ (kw_ok _ l12)) (.cons (ip.same sp) (.cons (.str _ ok1) (.cons (ii.same sp) .nil)))))
                · refine ⟨fun i c hc => ?_, fun c hc => ?_⟩
                  · rcases Nat.lt_or_ge i cs'.length with h | h
                    · rw [List.getElem?_append_left h] at hc
                      exact G9.word i c hc
                    · rw [List.getElem?_append_right h] at hc
                      have : i - cs'.length = 0 := by
                        have := (List.getElem?_eq_some_iff.mp hc).1
                        simpa using this
                      rw [this] at hc
                      cases (Option.some.inj hc)
                      show kw vs'.length = kw i
                      rw [vlen]
                      congr 1
                      omega
                  · rcases List.mem_append.mp hc with h | h
                    · exact G9.row c h
                    · rw [List.mem_singleton.mp h]
                      exact ⟨sg row hrow, hown⟩
              · rintro σ H9 ⟨y6, y7, vs', cs', rfl, im9, hD9, x9, ef9, ec9, el9, il9, ic9, G9, len9⟩
                exact ⟨_, _, _, _, vs', cs', rfl, im9, hD9, x9, ef9, ec9, ic9, G9, by omega, by omega⟩
          · rintro σ H3 ⟨y4, y5, y6, y7, vs, cs, rfl, imk3, hD3, x3, ef3, ec3, ic3, G, c1, c3⟩
            rw [List.length_map] at c1 c3
            exact ⟨_, _, _, _, vs, cs, rfl, imk3, hD3, x3, ef3, ec3, ic3, G, by omega, by omega⟩
        · rintro σ H3 ⟨y4, y5, y6, y7, vs, cs, rfl, imk3, hD3, x3, ef3, ec3, ic3, G, c1, c12⟩
          refine ⟨_, rfl, _, rfl, fl, _, rfl, SqL.of ef3, fun ft H4 hft s4 e4 => ?_⟩
          refine ⟨_, rfl, cl, _, rfl, SqL.of (s4 _ _ ec3), fun ct H5 hct s5 e5 => ?_⟩
          refine ⟨(by show 4 ≤ sizeLine; decide), fun tt H6 htt s6 e6 => ?_⟩
          have s456 := (s4.trans s5).trans s6
          have iF : ∀ G : List Str, (∀ z ∈ G, sok z = true) → IsL H6 (G.map V.str) (G.map PV.str) := by
            intro G
            induction G with
            | nil => exact fun _ => .nil
            | cons z r ih => exact fun hz => .cons (.str z (hz z (List.mem_cons_self ..))) (ih fun y hy => hz y (List.mem_cons_of_mem _ hy))
          refine q _ _ mk F cs (.tup e6 (.cons (.str _ (by decide +kernel)) (.cons (imk3.same s456) (.cons (.tup (e4.same (s5.trans s6)) (iF F Fok)) (.cons (.tup (e5.same s6) (ic3.same s456)) .nil))))) hmk ⟨G, ⟨c1, c12⟩, ⟨F2, F4⟩, Fok, Fnd⟩ (x3.trans (.of s456)) (hD3.same s456)
end
end Kx
set_option maxHeartbeats 2000000
/-! The mathematics of tables: what both sides compute. -/
namespace Kx
open PySem PySem.Spec PyProof.Rows L2
mutual
/-- how many things it has -/
def cnt : PV → Nat
  | .str _ => 1
  | .oth _ => 1
  | .tup ts => 1 + cntL ts
def cntL : List PV → Nat
  | [] => 0
  | t :: r => cnt t + cntL r
end
theorem cnt_pos : ∀ t : PV, 1 ≤ cnt t
  | .str _ => by simp [cnt]
  | .oth _ => by simp [cnt]
  | .tup ts => by simp [cnt]
theorem cntL_mem : ∀ {l : List PV} {t : PV}, t ∈ l → cnt t ≤ cntL l
  | a :: r, t, h => by
    rcases List.mem_cons.mp h with rfl | h
    · simp [cntL]
    · have := cntL_mem h
      simp only [cntL]; omega
theorem cntL_len : ∀ l : List PV, l.length ≤ cntL l
  | [] => by simp [cntL]
  | a :: r => by
    have := cntL_len r
    have := cnt_pos a
    simp only [cntL, List.length_cons]; omega
theorem cntL_append : ∀ a b : List PV, cntL (a ++ b) = cntL a + cntL b
  | [], b => by simp [cntL]
  | x :: r, b => by
    have := cntL_append r b
    simp only [List.cons_append, cntL, this]; omega
theorem cntL_reverse : ∀ a : List PV, cntL a.reverse = cntL a
  | [] => rfl
  | x :: r => by
    have := cntL_reverse r
    simp only [List.reverse_cons, cntL_append, cntL, this]; omega
/-! ### names -/
def add1 (f : List Str) (x : Str) : List Str := if x ∈ f then f else f ++ [x]
def dd (f ys : List Str) : List Str := ys.foldl add1 f
def addN (f ys : List Str) : List Str := f ++ ys.filter fun y => decide (y ∉ f)
theorem dd_snoc (f ys : List Str) (x : Str) : dd f (ys ++ [x]) = add1 (dd f ys) x := by simp [dd]
theorem dd_append (f a b : List Str) : dd f (a ++ b) = dd (dd f a) b := by simp [dd]
theorem snoc_induct {α : Type} {P : List α → Prop} (h0 : P []) (h1 : ∀ l x, P l → P (l ++ [x])) (l : List α) : P l := by
  have : ∀ r : List α, P r.reverse := by
    intro r
    induction r with
    | nil => exact h0
    | cons x r ih => rw [List.reverse_cons]; exact h1 _ _ ih
  have := this l.reverse
  rwa [List.reverse_reverse] at this
theorem dd_eq (f ys : List Str) : dd f ys = addN f (dd [] ys) := by
  refine snoc_induct (P := fun ys => dd f ys = addN f (dd [] ys)) ?_ ?_ ys
  · simp [dd, addN]
  · intro l x ih
    rw [dd_snoc, dd_snoc, ih]
    by_cases hx : x ∈ dd [] l
    · have h1 : x ∈ addN f (dd [] l) := by
        by_cases hf : x ∈ f
        · exact List.mem_append_left _ hf
        · exact List.mem_append_right _ (List.mem_filter.mpr ⟨hx, by simp [hf]⟩)
      simp only [add1, if_pos hx, if_pos h1]
    · by_cases hf : x ∈ f
      · have h1 : x ∈ addN f (dd [] l) := List.mem_append_left _ hf
        rw [add1, if_pos h1, add1, if_neg hx]
        simp [addN, List.filter_append, hf]
      · have h1 : x ∉ addN f (dd [] l) := by
          intro h
          rcases List.mem_append.mp h with h | h
          · exact hf h
          · exact hx (List.mem_filter.mp h).1
        rw [add1, if_neg h1, add1, if_neg hx]
        simp [addN, List.filter_append, hf, List.append_assoc]
mutual
/-- the names as they stand, from the left -/
def lv : PV → List Str
  | .str z => [z]
  | .oth _ => []
  | .tup [] => []
  | .tup (_ :: r) => lvL r
def lvL : List PV → List Str
  | [] => []
  | t :: r => lv t ++ lvL r
end
theorem lvL_append : ∀ a b : List PV, lvL (a ++ b) = lvL a ++ lvL b
  | [], b => by simp [lvL]
  | x :: r, b => by simp only [List.cons_append, lvL, lvL_append r b, List.append_assoc]
/-- each name once -/
def nms (t : PV) : List Str := dd [] (lv t)
def nmsL (f : List Str) (l : List PV) : List Str := l.foldl (fun f t => addN f (nms t)) f
theorem nmsL_eq : ∀ (l : List PV) (f : List Str), nmsL f l = dd f (lvL l)
  | [], f => rfl
  | t :: r, f => by
    show nmsL (addN f (nms t)) r = _
    rw [nmsL_eq r, nms, ← dd_eq]
    simp only [lvL, dd_append]
theorem nms_tup (x : PV) (r : List PV) : nms (.tup (x :: r)) = nmsL [] r := by
  rw [nmsL_eq]; rfl
theorem add1_len (f : List Str) (x : Str) : (add1 f x).length ≤ f.length + 1 := by
  unfold add1; split <;> simp
theorem dd_len : ∀ (ys f : List Str), (dd f ys).length ≤ f.length + ys.length
  | [], f => Nat.le_refl _
  | y :: r, f => by
    have h1 := dd_len r (add1 f y)
    have h2 := add1_len f y
    show (dd (add1 f y) r).length ≤ _
    rw [List.length_cons]; omega
mutual
theorem lv_len : ∀ t : PV, (lv t).length ≤ cnt t
  | .str _ => by simp [lv, cnt]
  | .oth _ => by simp [lv]
  | .tup [] => by simp [lv]
  | .tup (x :: r) => by
    have := lvL_len r
    simp only [lv, cnt, cntL]; omega
theorem lvL_len : ∀ l : List PV, (lvL l).length ≤ cntL l
  | [] => by simp [lvL]
  | t :: r => by
    have := lv_len t
    have := lvL_len r
    simp only [lvL, cntL, List.length_append]; omega
end
theorem nms_len (t : PV) : (nms t).length ≤ cnt t := by
  have := dd_len (lv t) []
  have := lv_len t
  simp only [nms]; simp at *; omega
theorem addN_len (f ys : List Str) : (addN f ys).length ≤ f.length + ys.length := by
  have := List.length_filter_le (fun y => decide (y ∉ f)) ys
  simp only [addN, List.length_append]; omega
/-! ### words -/
def letters : Str := "abcdefghijklmnopqrstuvwxyzABCDEFGHIJKLMNOPQRSTUVWXYZ"
def digits : Str := "0123456789"
/-- a word, as the program tells it -/
def wokP (z : Str) : Bool := decide (1 ≤ z.length) && decide (z.length ≤ 12) && Txt.isascii z && Txt.isalnum z && (match z.cps.toList with
  | c :: _ => Txt.isalpha ⟨#[c]⟩
  | [] => false)
/-- a word, as the law tells it -/
def wok (z : Str) : Bool := decide (1 ≤ z.length) && decide (z.length ≤ 12) && (match z.cps.toList with
  | c :: r => decide (c ∈ letters.cps.toList) && r.all fun d => decide (d ∈ letters.cps.toList) || decide (d ∈ digits.cps.toList)
  | [] => false)
theorem low_sign : ∀ c, c < 128 → Unicode.isAlpha c = decide (c ∈ letters.cps.toList) ∧ Unicode.isAlnum c = (decide (c ∈ letters.cps.toList) || decide (c ∈ digits.cps.toList)) := by decide +kernel
theorem letters_low : ∀ c ∈ letters.cps.toList, c < 128 := by decide +kernel
theorem digits_low : ∀ c ∈ digits.cps.toList, c < 128 := by decide +kernel
theorem sign_alnum (c : Nat) : (c < 128 ∧ Unicode.isAlnum c = true) ↔ (c ∈ letters.cps.toList ∨ c ∈ digits.cps.toList) := by
  constructor
  · rintro ⟨h, e⟩
    rw [(low_sign c h).2] at e
    simpa using e
  · intro h
    have hl : c < 128 := h.elim (letters_low c) (digits_low c)
    exact ⟨hl, by rw [(low_sign c hl).2]; simpa using h⟩
theorem sign_alpha (c : Nat) : (c < 128 ∧ Unicode.isAlpha c = true) ↔ c ∈ letters.cps.toList := by
  constructor
  · rintro ⟨h, e⟩
    rw [(low_sign c h).1] at e
    simpa using e
  · intro h
    have hl : c < 128 := letters_low c h
    exact ⟨hl, by rw [(low_sign c hl).1]; simpa using h⟩
theorem alpha1 (c : Nat) : Txt.isalpha ⟨#[c]⟩ = Unicode.isAlpha c := by
  simp [Txt.isalpha, Str.length]
theorem wok_eq (z : Str) : wokP z = wok z := by
  unfold wokP wok
  by_cases h1 : 1 ≤ z.length
  case neg => simp [h1]
  by_cases h2 : z.length ≤ 12
  case neg => simp [h2]
  have ha : Txt.isascii z = z.cps.toList.all fun c => decide (c < 128) := by simp [Txt.isascii]
  have hn : Txt.isalnum z = z.cps.toList.all Unicode.isAlnum := by
    have : decide (z.length > 0) = true := decide_eq_true (by omega)
    simp only [Txt.isalnum, this, Bool.true_and]
    simp
  rw [decide_eq_true h1, decide_eq_true h2, ha, hn]
  cases z.cps.toList with
  | nil => rfl
  | cons c r =>
    rw [Bool.eq_iff_iff]
    simp only [Bool.true_and, Bool.and_eq_true, List.all_eq_true, decide_eq_true_eq, alpha1, Bool.or_eq_true]
    constructor
    · rintro ⟨⟨h3, h4⟩, h5⟩
      exact ⟨(sign_alpha c).mp ⟨h3 c (List.mem_cons_self ..), h5⟩, fun d hd => (sign_alnum d).mp ⟨h3 d (List.mem_cons_of_mem _ hd), h4 d (List.mem_cons_of_mem _ hd)⟩⟩
    · rintro ⟨h3, h4⟩
      have h5 := (sign_alpha c).mpr h3
      have h6 := (sign_alnum c).mpr (.inl h3)
      refine ⟨⟨fun d hd => ?_, fun d hd => ?_⟩, h5.2⟩
      · rcases List.mem_cons.mp hd with rfl | hd
        · exact h5.1
        · exact ((sign_alnum d).mpr (h4 d hd)).1
      · rcases List.mem_cons.mp hd with rfl | hd
        · exact h6.2
        · exact ((sign_alnum d).mpr (h4 d hd)).2
def wordB : PV → Bool
  | .str z => wok z
  | _ => false
/-! ### makers, families -/
def mkPV (m : Str × Int) : PV := .tup [.str m.1, .oth (.int m.2)]
def mrowB : PV → Bool
  | .tup [.str w, .oth (.int i)] => wok w && (decide (0 ≤ i) && decide (i ≤ 2))
  | _ => false
def mnum : PV → Int
  | .tup [_, .oth (.int i)] => i
  | _ => 0
def fst1 : PV → Str
  | .tup (.str w :: _) => w
  | _ => ""
def txt : PV → Str
  | .str z => z
  | _ => ""
def mkB : PV → Bool
  | .tup ts => decide (1 ≤ ts.length) && decide (ts.length ≤ 5) && ts.all mrowB && ts.any fun t => mnum t == 0
  | _ => false
def mkL : PV → List (Str × Int)
  | .tup ts => ts.map fun t => (fst1 t, mnum t)
  | _ => []
theorem mrow_inv {t : PV} (h : mrowB t = true) : t = mkPV (fst1 t, mnum t) ∧ wok (fst1 t) = true ∧ 0 ≤ mnum t ∧ mnum t ≤ 2 := by
  cases t with
  | str _ => cases h
  | oth _ => cases h
  | tup l =>
    match l, h with
    | [.str w, .oth (.int i)], h =>
      simp only [mrowB, Bool.and_eq_true, decide_eq_true_eq] at h
      exact ⟨rfl, h.1, h.2.1, h.2.2⟩
structure MkG (mk : List (Str × Int)) : Prop where
  l1 : 1 ≤ mk.length
  l5 : mk.length ≤ 5
  row : ∀ m ∈ mk, wok m.1 = true ∧ 0 ≤ m.2 ∧ m.2 ≤ 2
theorem all_map {ts : List PV} (h : ts.all mrowB = true) : ts = (ts.map fun t => (fst1 t, mnum t)).map mkPV := by
  induction ts with
  | nil => rfl
  | cons a r ih =>
    simp only [List.all_cons, Bool.and_eq_true] at h
    rw [List.map_cons, List.map_cons, ← ih h.2, ← (mrow_inv h.1).1]
theorem mkB_inv {t : PV} (h : mkB t = true) : t = .tup ((mkL t).map mkPV) ∧ MkG (mkL t) := by
  cases t with
  | str _ => cases h
  | oth _ => cases h
  | tup ts =>
    simp only [mkB, Bool.and_eq_true, decide_eq_true_eq] at h
    obtain ⟨⟨⟨h1, h2⟩, h3⟩, _⟩ := h
    refine ⟨congrArg PV.tup (all_map h3), ⟨by simpa [mkL] using h1, by simpa [mkL] using h2, fun m hm => ?_⟩⟩
    obtain ⟨t, ht, rfl⟩ := List.mem_map.mp hm
    have := mrow_inv (List.all_eq_true.mp h3 t ht)
    exact ⟨this.2.1, this.2.2⟩
def famB : PV → Bool
  | .tup ts => decide (1 ≤ ts.length) && decide (ts.length ≤ 4) && ts.all wordB
  | _ => false
def famL : PV → List Str
  | .tup ts => ts.map txt
  | _ => []
theorem word_inv {t : PV} (h : wordB t = true) : t = .str (txt t) ∧ wok (txt t) = true := by
  cases t with
  | str _ => exact ⟨rfl, h⟩
  | oth _ => cases h
  | tup _ => cases h
theorem words_map {ts : List PV} (h : ts.all wordB = true) : ts = (ts.map txt).map PV.str := by
  induction ts with
  | nil => rfl
  | cons a r ih =>
    simp only [List.all_cons, Bool.and_eq_true] at h
    rw [List.map_cons, List.map_cons, ← ih h.2, ← (word_inv h.1).1]
theorem famB_inv {t : PV} (h : famB t = true) : t = .tup ((famL t).map PV.str) ∧ (famL t).length ≤ 4 ∧ ∀ z ∈ famL t, wok z = true := by
  cases t with
  | str _ => cases h
  | oth _ => cases h
  | tup ts =>
    simp only [famB, Bool.and_eq_true, decide_eq_true_eq] at h
    obtain ⟨⟨h1, h2⟩, h3⟩ := h
    refine ⟨congrArg PV.tup (words_map h3), by simpa [famL] using h2, fun z hz => ?_⟩
    obtain ⟨t, ht, rfl⟩ := List.mem_map.mp hz
    exact (word_inv (List.all_eq_true.mp h3 t ht)).2
/-! ### the dict of the makers -/
def putM (acc : List (Str × Int)) (m : Str × Int) : List (Str × Int) := if acc.any (fun kv => decide (kv.1 = m.1)) = true then acc.map fun kv => if kv.1 = m.1 then (kv.1, m.2) else kv else acc ++ [m]
def merged (mk : List (Str × Int)) : List (Str × Int) := mk.foldl putM []
def kvM (m : Str × Int) : Key × V := (Sum.inr m.1, V.int m.2)
theorem put_kv (acc : List (Str × Int)) (m : Str × Int) : putK (acc.map kvM) (kvM m).1 (kvM m).2 = (putM acc m).map kvM := by
  have e : ((acc.map kvM).any fun kv => decide (kv.1 = (kvM m).1)) = acc.any (fun kv => decide (kv.1 = m.1)) := by
    rw [List.any_map]
    congr 1
    funext kv
    simp [kvM]
  unfold putK putM
  rw [e]
  split
  · rw [List.map_map, List.map_map]
    refine List.map_congr_left fun kv _ => ?_
    simp only [Function.comp, kvM]
    by_cases h : kv.1 = m.1
    · simp [h]
    · simp [h]
  · simp [kvM]
theorem merge_kv : ∀ (mk acc : List (Str × Int)), mergeK (acc.map kvM) (mk.map kvM) = (mk.foldl putM acc).map kvM
  | [], acc => rfl
  | m :: r, acc => by
    show mergeK (putK (acc.map kvM) (kvM m).1 (kvM m).2) (r.map kvM) = _
    rw [put_kv, merge_kv r]
    rfl
theorem putM_nd {acc : List (Str × Int)} {m : Str × Int} (h : (acc.map (·.1)).Nodup) : ((putM acc m).map (·.1)).Nodup := by
  unfold putM
  split
  · have e : (acc.map fun kv => if kv.1 = m.1 then (kv.1, m.2) else kv).map (·.1) = acc.map (·.1) := by
      rw [List.map_map]
      refine List.map_congr_left fun kv _ => ?_
      simp only [Function.comp]
      split <;> rfl
    rw [e]; exact h
  · rename_i hn
    rw [List.map_append]
    refine List.nodup_append.mpr ⟨h, by simp, fun a ha b hb e => ?_⟩
    simp only [List.map_cons, List.map_nil, List.mem_singleton] at hb
    subst hb e
    obtain ⟨kv, hkv, e⟩ := List.mem_map.mp ha
    exact hn (List.any_eq_true.mpr ⟨kv, hkv, by simpa using e⟩)
theorem putM_len (acc : List (Str × Int)) (m : Str × Int) : (putM acc m).length ≤ acc.length + 1 := by
  unfold putM
  split <;> simp
theorem putM_row {P : Int → Prop} {acc : List (Str × Int)} {m : Str × Int} (h : ∀ x ∈ acc, P x.2) (hm : P m.2) : ∀ x ∈ putM acc m, P x.2 := by
  intro x hx
  unfold putM at hx
  split at hx
  · obtain ⟨kv, hkv, rfl⟩ := List.mem_map.mp hx
    split
    · exact hm
    · exact h kv hkv
  · rcases List.mem_append.mp hx with q | q
    · exact h x q
    · rw [List.mem_singleton.mp q]; exact hm
theorem fold_nd : ∀ (mk acc : List (Str × Int)), (acc.map (·.1)).Nodup → ((mk.foldl putM acc).map (·.1)).Nodup
  | [], _, h => h
  | m :: r, acc, h => fold_nd r _ (putM_nd h)
theorem fold_len : ∀ (mk acc : List (Str × Int)), (mk.foldl putM acc).length ≤ acc.length + mk.length
  | [], acc => Nat.le_refl _
  | m :: r, acc => by
    have h1 := fold_len r (putM acc m)
    have h2 := putM_len acc m
    show (r.foldl putM (putM acc m)).length ≤ _
    rw [List.length_cons]; omega
theorem fold_row {P : Int → Prop} : ∀ (mk acc : List (Str × Int)), (∀ x ∈ acc, P x.2) → (∀ x ∈ mk, P x.2) → ∀ x ∈ mk.foldl putM acc, P x.2
  | [], _, h, _ => h
  | m :: r, acc, h, hm => fold_row r _ (putM_row h (hm m (List.mem_cons_self ..))) fun x hx => hm x (List.mem_cons_of_mem _ hx)
theorem fold_new : ∀ (mk acc : List (Str × Int)), ((acc ++ mk).map (·.1)).Nodup → mk.foldl putM acc = acc ++ mk
  | [], acc, _ => by simp
  | m :: r, acc, h => by
    have hn : ¬ (acc.any (fun kv => decide (kv.1 = m.1)) = true) := by
      intro e
      obtain ⟨kv, hkv, e⟩ := List.any_eq_true.mp e
      rw [List.map_append] at h
      refine (List.nodup_append.mp h).2.2 kv.1 (List.mem_map.mpr ⟨kv, hkv, rfl⟩) m.1 ?_ (by simpa using e)
      simp
    have e : putM acc m = acc ++ [m] := by unfold putM; rw [if_neg hn]
    show r.foldl putM (putM acc m) = _
    rw [e, fold_new r (acc ++ [m]) (by simpa using h)]
    simp
theorem merged_nd (mk : List (Str × Int)) : ((merged mk).map (·.1)).Nodup := fold_nd mk [] (by simp)
theorem merged_len (mk : List (Str × Int)) : (merged mk).length ≤ mk.length := by
  have := fold_len mk []
  simp only [List.length_nil, Nat.zero_add] at this
  exact this
theorem merged_row {mk : List (Str × Int)} (h : ∀ m ∈ mk, m.2 ≤ 2) : ∀ m ∈ merged mk, m.2 ≤ 2 := fold_row (P := fun i => i ≤ 2) mk [] (by simp) h
theorem merged_self {mk : List (Str × Int)} (h : (mk.map (·.1)).Nodup) : merged mk = mk := fold_new mk [] (by simpa using h)
theorem merged_kv (mk : List (Str × Int)) : mergeK [] (mk.map kvM) = (merged mk).map kvM := merge_kv mk []
/-! ### terms -/
/-- a term of few parts, so deep at most -/
def Sm : Nat → PV → Prop
  | 0, _ => False
  | _ + 1, .str _ => True
  | n + 1, .tup (.str _ :: r) => r.length ≤ 2 ∧ ∀ t ∈ r, Sm n t
  | _, _ => False
theorem Sm.tm : ∀ {n : Nat} {t : PV}, Sm n t → Tm t
  | n + 1, .str z, _ => trivial
  | n + 1, .tup (.str w :: r), h => TmL_mem fun t ht => Sm.tm (h.2 t ht)
theorem cntL_le {l : List PV} {b : Nat} (h : ∀ t ∈ l, cnt t ≤ b) : cntL l ≤ l.length * b := by
  induction l with
  | nil => simp [cntL]
  | cons a r ih =>
    have h1 := h a (List.mem_cons_self ..)
    have h2 := ih fun t ht => h t (List.mem_cons_of_mem _ ht)
    simp only [cntL, List.length_cons, Nat.succ_mul]; omega
theorem Sm.cnt : ∀ {n : Nat} {t : PV}, Sm n t → cnt t ≤ 3 ^ n
  | n + 1, .str z, _ => Nat.one_le_pow _ _ (by decide)
  | n + 1, .tup (.str w :: r), h => by
    have h1 : cntL r ≤ r.length * 3 ^ n := cntL_le fun t ht => Sm.cnt (h.2 t ht)
    have h2 : r.length * 3 ^ n ≤ 2 * 3 ^ n := Nat.mul_le_mul_right _ h.1
    have h3 : Kx.cnt (.tup (.str w :: r)) = 2 + cntL r := by simp only [Kx.cnt, cntL]; omega
    cases n with
    | zero =>
      have : r = [] := by
        cases r with
        | nil => rfl
        | cons a _ => exact absurd (h.2 a (List.mem_cons_self ..)) id
      subst this
      simp [Kx.cnt, cntL]
    | succ n =>
      have h4 : 1 ≤ 3 ^ n := Nat.one_le_pow _ _ (by decide)
      rw [h3, Nat.pow_succ, Nat.pow_succ]
      rw [Nat.pow_succ] at h1 h2
      omega
theorem Sm.cnt4 {t : PV} (h : Sm 4 t) : Kx.cnt t ≤ 100 := Nat.le_trans h.cnt (by decide)
def deeper : Nat → PV → Bool
  | 0, _ => true
  | _ + 1, .str _ => false
  | n + 1, .tup (_ :: r) => r.any (deeper n)
  | _, _ => false
theorem look_mem {mk : List (Str × Int)} {w : Str} {i : Int} (h : look mk w = some i) : (w, i) ∈ mk := by
  unfold look at h
  cases e : mk.find? (fun kv => kv.1 == w) with
  | none => rw [e] at h; cases h
  | some kv =>
    rw [e] at h
    have h1 : kv.1 = w := by simpa using List.find?_some e
    have h2 := List.mem_of_find?_eq_some e
    cases (Option.some.inj h)
    rw [← h1]; exact h2
theorem mem_look {mk : List (Str × Int)} (nd : (mk.map (·.1)).Nodup) {w : Str} {i : Int} (h : (w, i) ∈ mk) : look mk w = some i := by
  induction mk with
  | nil => cases h
  | cons a r ih =>
    rw [List.map_cons, List.nodup_cons] at nd
    by_cases e : a.1 = w
    · rcases List.mem_cons.mp h with q | q
      · subst q; simp [look]
      · exact absurd (List.mem_map.mpr ⟨(w, i), q, rfl⟩) (by rw [← e]; exact nd.1)
    · rcases List.mem_cons.mp h with q | q
      · subst q; exact absurd rfl e
      · have := ih nd.2 q
        unfold look at this ⊢
        rw [List.find?_cons]
        have e' : (a.1 == w) = false := by simpa using e
        rw [e']; exact this
theorem look_none {mk : List (Str × Int)} {w : Str} : (look mk w).isNone = !decide (w ∈ mk.map (·.1)) := by
  unfold look
  induction mk with
  | nil => rfl
  | cons a r ih =>
    rw [List.find?_cons]
    by_cases e : a.1 = w
    · have e' : (a.1 == w) = true := by simpa using e
      rw [e']
      simp [e]
    · have e' : (a.1 == w) = false := by simpa using e
      rw [e', ih]
      have : ¬ w = a.1 := fun q => e q.symm
      simp [this]
theorem form_sm {mk : List (Str × Int)} (h2 : ∀ m ∈ mk, m.2 ≤ 2) : ∀ {n : Nat} {t : PV}, form mk true t = true → deeper n t = false → Sm n t
  | 0, t, _, h => by simp [deeper] at h
  | n + 1, .str z, _, _ => trivial
  | n + 1, .oth _, h, _ => by simp [form] at h
  | n + 1, .tup [], h, _ => by simp [form] at h
  | n + 1, .tup (.oth _ :: _), h, _ => by simp [form] at h
  | n + 1, .tup (.tup _ :: _), h, _ => by simp [form] at h
  | n + 1, .tup (.str w :: r), h, hd => by
    simp only [form, Bool.and_eq_true, beq_iff_eq, formL_all, List.all_eq_true] at h
    have m := h2 _ (look_mem h.1)
    simp only [deeper, List.any_eq_false] at hd
    refine ⟨by simp only at m; omega, fun t ht => form_sm h2 (h.2 t ht) (by simpa using hd t ht)⟩
/-! ### the depth as the law tells it -/
mutual
def ldeep (mk : List (Str × Int)) : PV → Nat
  | .str z => if wok z && !decide (z ∈ mk.map (·.1)) then 1 else 9
  | .oth _ => 9
  | .tup [] => 9
  | .tup (.oth _ :: _) => 9
  | .tup (.tup _ :: _) => 9
  | .tup (.str w :: r) => if decide ((w, (r.length : Int)) ∈ mk) then 1 + ldeepL mk r else 9
def ldeepL (mk : List (Str × Int)) : List PV → Nat
  | [] => 0
  | t :: r => max (ldeep mk t) (ldeepL mk r)
end
theorem ldeep_pos (mk : List (Str × Int)) : ∀ t : PV, 1 ≤ ldeep mk t
  | .str z => by simp only [ldeep]; split <;> decide
  | .oth _ => by simp [ldeep]
  | .tup [] => by simp [ldeep]
  | .tup (.oth _ :: _) => by simp [ldeep]
  | .tup (.tup _ :: _) => by simp [ldeep]
  | .tup (.str w :: r) => by simp only [ldeep]; split <;> omega
theorem ldeepL_le {mk : List (Str × Int)} {n : Nat} : ∀ {l : List PV}, ldeepL mk l ≤ n ↔ ∀ t ∈ l, ldeep mk t ≤ n
  | [] => by simp [ldeepL]
  | a :: r => by
    simp only [ldeepL, List.forall_mem_cons, Nat.max_le, ldeepL_le (l := r)]
theorem ldeep_sm {mk : List (Str × Int)} (h2 : ∀ m ∈ mk, m.2 ≤ 2) : ∀ {n : Nat} {t : PV}, n ≤ 8 → ldeep mk t ≤ n → Sm n t
  | 0, t, _, h => by have := ldeep_pos mk t; omega
  | n + 1, .str z, _, _ => trivial
  | n + 1, .oth _, h8, h => by simp [ldeep] at h; omega
  | n + 1, .tup [], h8, h => by simp [ldeep] at h; omega
  | n + 1, .tup (.oth _ :: _), h8, h => by simp [ldeep] at h; omega
  | n + 1, .tup (.tup _ :: _), h8, h => by simp [ldeep] at h; omega
  | n + 1, .tup (.str w :: r), h8, h => by
    simp only [ldeep] at h
    split at h
    · rename_i c
      have m := h2 _ (of_decide_eq_true c)
      have hr : ldeepL mk r ≤ n := by omega
      exact ⟨by simp only at m; omega, fun t ht => ldeep_sm h2 (by omega) (ldeepL_le.mp hr t ht)⟩
    · omega
theorem nine {P : Prop} {k n : Nat} (h8 : n + 1 ≤ 8) (e1 : k = 9) (e2 : ¬ P) : k ≤ n + 1 ↔ P := ⟨fun h => by omega, fun h => absurd h e2⟩
theorem ldeep_iff {mk : List (Str × Int)} (nd : (mk.map (·.1)).Nodup) : ∀ (n : Nat) (t : PV), n ≤ 8 → (ldeep mk t ≤ n ↔ (form mk true t = true ∧ deeper n t = false) ∧ ∀ z ∈ lv t, wok z = true)
  | 0, t, _ => by
    have := ldeep_pos mk t
    constructor
    · intro h; omega
    · rintro ⟨⟨_, h⟩, _⟩; simp [deeper] at h
  | n + 1, t, h8 => by
    match t with
    | .oth _ => exact nine h8 (by simp [ldeep]) (by simp [form])
    | .tup [] => exact nine h8 (by simp [ldeep]) (by simp [form])
    | .tup (.oth _ :: _) => exact nine h8 (by simp [ldeep]) (by simp [form])
    | .tup (.tup _ :: _) => exact nine h8 (by simp [ldeep]) (by simp [form])
    | .str z =>
      by_cases h1 : wok z = true
      · by_cases h3 : z ∈ mk.map (·.1)
        · exact nine h8 (by simp only [ldeep]; rw [h1, decide_eq_true h3]; rfl) (by simp only [form, look_none, decide_eq_true h3]; simp)
        · have e : ldeep mk (.str z) = 1 := by simp only [ldeep]; rw [h1, decide_eq_false h3]; rfl
          rw [e]
          simp only [form, look_none, decide_eq_false h3, deeper, lv, List.mem_singleton]
          constructor
          · intro _
            exact ⟨⟨rfl, trivial⟩, fun z' hz => by rw [hz]; exact h1⟩
          · intro _; omega
      · have h1' : wok z = false := by simpa using h1
        exact nine h8 (by simp only [ldeep]; rw [h1']; rfl) (fun q => h1 (q.2 z (by simp [lv])))
    | .tup (.str w :: r) =>
      by_cases hm : (w, (r.length : Int)) ∈ mk
      · have e : ldeep mk (.tup (.str w :: r)) = 1 + ldeepL mk r := by simp only [ldeep]; rw [decide_eq_true hm]; rfl
        rw [e]
        have key := fun t => ldeep_iff nd n t (by omega)
        have lvm : ∀ (l : List PV) (z : Str), z ∈ lvL l ↔ ∃ t ∈ l, z ∈ lv t := fun l z => by
          induction l with
          | nil => simp [lvL]
          | cons a r ih => simp [lvL, ih]
        rw [show (1 + ldeepL mk r ≤ n + 1) ↔ ldeepL mk r ≤ n by omega, ldeepL_le]
        simp only [form, deeper, lv, formL_all, mem_look nd hm, beq_self_eq_true, Bool.true_and, List.all_eq_true, List.any_eq_false]
        constructor
        · intro h
          refine ⟨⟨fun t ht => ((key t).mp (h t ht)).1.1, fun t ht => by simp [((key t).mp (h t ht)).1.2]⟩, fun z hz => ?_⟩
          obtain ⟨t, ht, hz⟩ := (lvm r z).mp hz
          exact ((key t).mp (h t ht)).2 z hz
        · rintro ⟨⟨h1, h2⟩, h3⟩ t ht
          exact (key t).mpr ⟨⟨h1 t ht, by simpa using h2 t ht⟩, fun z hz => h3 z ((lvm r z).mpr ⟨t, ht, hz⟩)⟩
      · refine nine h8 (by simp only [ldeep]; rw [decide_eq_false hm]; rfl) ?_
        rintro ⟨⟨h1, _⟩, _⟩
        simp only [form, Bool.and_eq_true, beq_iff_eq] at h1
        exact hm (look_mem h1.1)
/-! ### names -/
theorem add1_mem {f : List Str} {x z : Str} : z ∈ add1 f x ↔ z ∈ f ∨ z = x := by
  unfold add1
  split
  · rename_i h
    constructor
    · exact .inl
    · rintro (h2 | rfl)
      · exact h2
      · exact h
  · simp
theorem dd_mem {z : Str} : ∀ {ys f : List Str}, z ∈ dd f ys ↔ z ∈ f ∨ z ∈ ys
  | [], f => by simp [dd]
  | y :: r, f => by
    show z ∈ dd (add1 f y) r ↔ _
    rw [dd_mem, add1_mem, List.mem_cons, or_assoc]
theorem nms_mem {z : Str} {t : PV} : z ∈ nms t ↔ z ∈ lv t := by
  simp [nms, dd_mem]
theorem nms_all (t : PV) (p : Str → Bool) : (nms t).all p = (lv t).all p := by
  rw [Bool.eq_iff_iff]
  simp only [List.all_eq_true, nms_mem]
/-! ### tables -/
def kindB (mk : List (Str × Int)) (F : List Str) : PV → Bool
  | .tup [a, x] => inZ F a && (form (merged mk) true x && !deeper 4 x && (nms x).all wok)
  | _ => false
def pairB (mk : List (Str × Int)) (F : List Str) : PV → Bool
  | .tup [a, x] => inZ F a && decide (ldeep mk x ≤ 4)
  | _ => false
def flat : PV → Bool
  | .str _ => true
  | .tup (_ :: r) => r.all isStr && decide ((r.map txt).Nodup)
  | _ => false
def lflat : PV → Bool
  | .str _ => true
  | .tup (_ :: r) => r.all isStr
  | _ => false
def snd2 : PV → PV
  | .tup [_, x] => x
  | _ => .oth .non
def told (ps : List PV) : List Str := nmsL [] (ps.map snd2)
def toldB (ps : List PV) (ix : PV) : Bool := (nms ix).all (fun z => decide (z ∈ told ps)) && decide ((told ps).length ≤ 4)
def ltoldB (ps : List PV) (ix : PV) : Bool := decide ((told ps).length ≤ 4) && (lv ix).all (fun z => decide (z ∈ told ps) && decide ((lv ix).count z ≤ 1))
def conB (mk : List (Str × Int)) (F : List Str) : PV → Bool
  | .tup [w, .tup ps, f, ix] => wordB w && (decide (ps.length ≤ 3) && (ps.all (kindB mk F) && kindB mk F (.tup [f, ix]) && (flat ix && toldB ps ix)))
  | _ => false
def lconB (mk : List (Str × Int)) (F : List Str) : PV → Bool
  | .tup [w, .tup ps, f, ix] => wordB w && (decide (ps.length ≤ 3) && (ps.all (pairB mk F) && pairB mk F (.tup [f, ix]) && (ltoldB ps ix && lflat ix)))
  | _ => false
def csB (p : PV → Bool) : PV → Bool
  | .tup cs => decide (cs.length ≤ 16) && cs.all p
  | _ => false
def cwords : PV → List Str
  | .tup cs => cs.map fst1
  | _ => []
def wordsOf (m f c : PV) : List Str := (mkL m).map (·.1) ++ famL f ++ cwords c
def isT : PV → Bool
  | .tup [a, m, f, c] => isZ "table" a && (mkB m && (famB f && (csB (conB (mkL m) (famL f)) c && decide ((wordsOf m f c).Nodup))))
  | _ => false
def lawT : PV → Bool
  | .tup [a, m, f, c] => isZ "table" a && (mkB m && (famB f && (csB (lconB (mkL m) (famL f)) c && decide ((wordsOf m f c).Nodup))))
  | _ => false
theorem kind_eq {mk : List (Str × Int)} (nd : (mk.map (·.1)).Nodup) (F : List Str) (t : PV) : kindB mk F t = pairB mk F t := by
  have key : ∀ a x, kindB mk F (.tup [a, x]) = pairB mk F (.tup [a, x]) := fun a x => by
    simp only [kindB, pairB, merged_self nd]
    congr 1
    rw [Bool.eq_iff_iff, decide_eq_true_eq, ldeep_iff nd 4 x (by decide), nms_all]
    simp [List.all_eq_true]
  match t with
  | .tup [a, x] => exact key a x
  | .str _ => rfl
  | .oth _ => rfl
  | .tup [] => rfl
  | .tup [_] => rfl
  | .tup (_ :: _ :: _ :: _) => rfl
theorem pair_tm {mk : List (Str × Int)} {F : List Str} {f ix : PV} (h2 : ∀ m ∈ mk, m.2 ≤ 2) (h : pairB mk F (.tup [f, ix]) = true) : Sm 4 ix := by
  simp only [pairB, Bool.and_eq_true, decide_eq_true_eq] at h
  exact ldeep_sm h2 (by decide) h.2
theorem lvL_strs : ∀ r : List PV, r.all isStr = true → lvL r = r.map txt
  | [], _ => rfl
  | .str z :: r, h => by
    simp only [List.all_cons, Bool.and_eq_true] at h
    simp only [lvL, lv, lvL_strs r h.2, List.map_cons, txt, List.singleton_append]
  | .oth _ :: r, h => by simp [isStr] at h
  | .tup _ :: r, h => by simp [isStr] at h
theorem names_eq {ps : List PV} {ix : PV} (h : Tm ix) : (flat ix && toldB ps ix) = (ltoldB ps ix && lflat ix) := by
  match ix, h with
  | .str z, _ =>
    have e : nms (.str z) = [z] := by simp [nms, lv, dd, add1]
    rw [Bool.eq_iff_iff]
    simp only [flat, lflat, toldB, ltoldB, e, lv, Bool.true_and, Bool.and_true, Bool.and_eq_true, decide_eq_true_eq, List.all_cons, List.all_nil, List.count_singleton_self]
    constructor
    · rintro ⟨a, b⟩; exact ⟨b, a, Nat.le_refl _⟩
    · rintro ⟨a, b, _⟩; exact ⟨b, a⟩
  | .tup (.str w :: r), _ =>
    by_cases hs : r.all isStr = true
    · have e := lvL_strs r hs
      rw [Bool.eq_iff_iff]
      simp only [flat, lflat, toldB, ltoldB, nms_all, lv, e, hs, Bool.true_and, Bool.and_true, Bool.and_eq_true, decide_eq_true_eq, List.all_eq_true]
      rw [List.nodup_iff_count]
      constructor
      · rintro ⟨a, b, c⟩; exact ⟨c, fun z hz => ⟨b z hz, a z⟩⟩
      · rintro ⟨a, b⟩
        refine ⟨fun z => ?_, fun z hz => (b z hz).1, a⟩
        by_cases hz : z ∈ r.map txt
        · exact (b z hz).2
        · rw [List.count_eq_zero_of_not_mem hz]; omega
    · have hs' : r.all isStr = false := by simpa using hs
      simp only [flat, lflat, hs', Bool.false_and, Bool.and_false]
theorem con_eq {mk : List (Str × Int)} (h2 : ∀ m ∈ mk, m.2 ≤ 2) (nd : (mk.map (·.1)).Nodup) (F : List Str) (t : PV) : conB mk F t = lconB mk F t := by
  match t with
  | .tup [w, .tup ps, f, ix] =>
    have e1 : ps.all (kindB mk F) = ps.all (pairB mk F) := by
      congr 1
      funext t
      exact kind_eq nd F t
    simp only [conB, lconB, e1, kind_eq nd]
    cases hp : pairB mk F (.tup [f, ix]) with
    | false => simp
    | true => rw [names_eq (pair_tm h2 hp).tm]
  | .str _ => rfl
  | .oth _ => rfl
  | .tup [] => rfl
  | .tup [_] => rfl
  | .tup [_, .str _] => rfl
  | .tup [_, .oth _] => rfl
  | .tup [_, .tup _] => rfl
  | .tup [_, .str _, _] => rfl
  | .tup [_, .oth _, _] => rfl
  | .tup [_, .tup _, _] => rfl
  | .tup [_, .str _, _, _] => rfl
  | .tup [_, .oth _, _, _] => rfl
  | .tup (_ :: .str _ :: _ :: _ :: _ :: _) => rfl
  | .tup (_ :: .oth _ :: _ :: _ :: _ :: _) => rfl
  | .tup (_ :: .tup _ :: _ :: _ :: _ :: _) => rfl
theorem table_eq (t : PV) : isT t = lawT t := by
  match t with
  | .tup [a, m, f, c] =>
    simp only [isT, lawT]
    cases hm : mkB m with
    | false => simp
    | true =>
      obtain ⟨_, G⟩ := mkB_inv hm
      by_cases nd : ((mkL m).map (·.1)).Nodup
      · have e : conB (mkL m) (famL f) = lconB (mkL m) (famL f) := by
          funext t
          exact con_eq (fun m hm => (G.row m hm).2.2) nd _ t
        rw [e]
      · have e : decide ((wordsOf m f c).Nodup) = false := by
          refine decide_eq_false fun h => nd ?_
          unfold wordsOf at h
          rw [List.append_assoc] at h
          exact (List.nodup_append.mp h).1
        rw [e]
        simp
  | .str _ => rfl
  | .oth _ => rfl
  | .tup [] => rfl
  | .tup [_] => rfl
  | .tup [_, _] => rfl
  | .tup [_, _, _] => rfl
  | .tup (_ :: _ :: _ :: _ :: _ :: _) => rfl
end Kx
set_option maxHeartbeats 1000000
/-! set(xs) of texts, sorted(set(xs)), len(set(xs)). -/
namespace Kx
open PySem PySem.Spec PyProof.Rows L2
/-- a set's payload that can be walked: its places rise, and it is laid as the text says or drawn -/
structure Lain (w : World) (D : Froz.SD) : Prop where
  ris : Ris D.2.2.place.toList
  led : w.params.followText "set-order" = true ∨ D.2.2.led = true
theorem lain_plain {w : World} {es : Array (Int × Value)} {n : Nat} {t : SetTable} (L : Lain w (es, n, t)) (b : Bool) : Lain w (es, n, { t with plain := b }) := ⟨L.1, L.2⟩
theorem lain_tail {w : World} {n : Nat} {es : Array (Int × Value)} {t : SetTable} {b : Bool} (L : Lain w (es, n, t)) : Lain w (Froz.tailTx n es t b) := by
  unfold Froz.tailTx
  by_cases c : (!b && t.tooFull) = true
  · rw [if_pos c]
    exact ⟨relayAll_ris t es _, L.led.imp id fun z => (relayAll_led t es _).trans z⟩
  · rw [if_neg c]
    exact ⟨L.1, L.2⟩
theorem lain_add {w : World} {D : Froz.SD} (h : Int) (v : Value) (L : Lain w D) : Lain w (Froz.addTx h v D) := by
  unfold Froz.addTx
  have r := layNew_ris D.2.2 D.1 h v L.ris
  have l := layNew_led D.2.2 D.1 h v
  have M : Lain w ((layNew D.2.2 D.1 h v).1, D.2.1, (layNew D.2.2 D.1 h v).2.1) := ⟨r, L.led.imp id fun z => l.trans z⟩
  refine lain_tail ?_
  by_cases c : (layNew D.2.2 D.1 h v).2.1.plain = true
  · rw [if_pos c]; exact lain_plain M false
  · rw [if_neg c]; exact ⟨M.1, M.2⟩
/-- the set at a holds the texts zs, each once -/
def SetZ (P : Program) (w : World) (h : Heap) (a : Addr) (zs : List Str) : Prop := ∃ D, h.get? a = some (Froz.sObj "set" D) ∧ Froz.TxOk P w D zs ∧ Lain w D ∧ zs.Nodup
section
variable {P : Program} {w : World} {A : Around} {E : Value → Shared → Prop} {s : Shared}
theorem SetZ.at {h h' : Heap} {a : Addr} {zs : List Str} (Z : SetZ P w h a zs) (k : ∀ o, h.get? a = some o → h'.get? a = some o) : SetZ P w h' a zs := by
  obtain ⟨D, e, r⟩ := Z
  exact ⟨D, k _ e, r⟩
/-- a text more -/
def put1 (zs : List Str) (z : Str) : List Str := if z ∈ zs then zs else z :: zs
theorem put1_mem {zs : List Str} {z y : Str} : y ∈ put1 zs z ↔ y = z ∨ y ∈ zs := by
  unfold put1
  by_cases c : z ∈ zs
  · rw [if_pos c]
    constructor
    · exact .inr
    · rintro (rfl | h)
      · exact c
      · exact h
  · rw [if_neg c]; exact List.mem_cons
theorem put1_len (zs : List Str) (z : Str) : (put1 zs z).length ≤ zs.length + 1 := by
  unfold put1
  split
  · omega
  · simp
theorem setZ_add {a : Addr} {zs : List Str} {z : Str} {u : Tok} {Q : Bool → Shared → Prop} (Z : SetZ P w s.heap a zs) (room : zs.length + 1 < scanBound)
    (q : ∀ b g, Heap.SameBut a s.heap g → SetZ P w g a (put1 zs z) → Q b { s with heap := g }) : wpAny (model P w) A (setAddHashed a (.str z u) (hashStr w z)) Q E s := by
  obtain ⟨D, e, T, L, nd⟩ := id Z
  by_cases c : z ∈ zs
  · obtain ⟨es, n, t⟩ := D
    have hm : ∃ x ∈ es.toList, (strKind P w).is z x.2 = true := (T.mem z).mp c
    have hel : ElemsOf (strKind P w) es.toList := T.el
    have hs : es.size = zs.length := T.sz
    have hf : t.fits es.size = true := T.fit
    have hd : (Froz.sObj "set" (es, n, t)).data = .set es n t := rfl
    have hk : (strKind P w).is z (.str z u) = true := Froz.is_str z u
    have hb : es.size < scanBound := by omega
    unfold setAddHashed setAddHashedIn
    refine wpAny_holding (wpAny_bind (wpAny_setState_of e hd hf ?_))
    dsimp only
    rw [byScan_of rfl hb hel, if_pos rfl]
    unfold setAddByScan
    refine wpAny_bind (wpAny_bind (wpAny_rule (wpAny_bind (wpAny_setScan_of (knd := strKind P w) (k := z) hk e hd hf hel ?_))))
    cases hr : List.findIdx? (fun x => (strKind P w).is z x.2) es.toList with
    | none =>
      obtain ⟨x, hx, px⟩ := hm
      have := List.findIdx?_eq_none_iff.mp hr x hx
      rw [px] at this
      cases this
    | some j =>
      refine wpAny_pure (wpAny_pure ?_)
      have e1 : put1 zs z = zs := if_pos c
      exact q _ s.heap (Heap.SameBut.refl a s.heap) (by rw [e1]; exact Z)
  · refine Froz.add_x e T c room (q _ _ (Heap.SameBut.update s.heap a _) ⟨_, Froz.get_upd _ e rfl, ?_, lain_add _ _ L, ?_⟩)
    · have e1 : put1 zs z = z :: zs := if_neg c
      rw [e1]; exact Froz.add_ok u T
    · have e1 : put1 zs z = z :: zs := if_neg c
      rw [e1]; exact List.nodup_cons.mpr ⟨c, nd⟩
/-- the texts of a list, each once -/
def distinct (ws : List Str) : List Str := ws.foldl put1 []
theorem distinct_mem {y : Str} : ∀ (ws zs : List Str), y ∈ ws.foldl put1 zs ↔ y ∈ zs ∨ y ∈ ws
  | [], zs => by simp
  | x :: r, zs => by
    rw [List.foldl_cons, distinct_mem r, put1_mem, List.mem_cons]
    constructor
    · rintro ((h | h) | h)
      · exact .inr (.inl h)
      · exact .inl h
      · exact .inr (.inr h)
    · rintro (h | h | h)
      · exact .inl (.inr h)
      · exact .inl (.inl h)
      · exact .inr h
theorem distinct_len : ∀ (ws zs : List Str), (ws.foldl put1 zs).length ≤ zs.length + ws.length
  | [], zs => by simp
  | x :: r, zs => by
    have a := distinct_len r (put1 zs x)
    have b := put1_len zs x
    rw [List.foldl_cons, List.length_cons]
    omega
theorem setZ_loop {I : Addr} {fp wr : List Addr} {G : Array GenState → Array GenState → Prop} {n : Nat} {Pv : Nat → Value → Prop} {St : Nat → Shared → Prop} {R : Result → Shared → Prop} {a : Addr} {ws : List Str}
    (W : WalksS P w A.in1 I fp wr G n Pv St) (out : a ∉ fp) (hn : n = ws.length) (few : ws.length + 1 < scanBound) (hv : ∀ i v, Pv i v → ∃ z u, ws[i]? = some z ∧ v = .str z u) :
    ∀ (m i : Nat) (s : Shared), m + i = n → St i s → SetZ P w s.heap a (distinct (ws.take i)) → (∀ s', Moved (a :: wr) G s s' → SetZ P w s'.heap a (distinct ws) → R (.ok (.ret .none)) s') →
      codeAny (model P w) A (.builtin "set.update.loop" ⟨[.ref a, .ref I], []⟩) R s
  | 0, i, s, hi, st, Z, q => by
    have ei : i = n := by omega
    subst ei
    have all : ws.take i = ws := List.take_of_length_le (by omega)
    rw [all] at Z
    refine codeAny_builtin F.entry_set_update_loop ?_
    rw [Around.under_plainId F.plain_set_update_loop _]
    show wpAny _ A.in1 (pyNext (.ref I) >>= _) _ _ _
    exact wpAny_bind (W.done s _ _ st fun s' m => wpAny_pure (q s' (m.mono fun b h => List.mem_cons_of_mem _ h) (Z.at fun o e => m.heap a o (fun h => out (W.sub _ h)) e)))
  | m + 1, i, s, hi, st, Z, q => by
    refine codeAny_builtin F.entry_set_update_loop ?_
    rw [Around.under_plainId F.plain_set_update_loop _]
    show wpAny _ A.in1 (pyNext (.ref I) >>= _) _ _ _
    refine wpAny_bind (W.item i s _ _ (by omega) st fun v s1 pv st1 mv => ?_)
    obtain ⟨z, u, ez, rfl⟩ := hv i v pv
    have Z1 := Z.at (h' := s1.heap) fun o e => mv.heap a o (fun h => out (W.sub _ h)) e
    show wpAny _ A.in1 (holding [Value.str z u] (setAdd a (.str z u)) >>= _) _ _ _
    refine wpAny_bind (wpAny_holding ?_)
    unfold setAdd
    refine wpAny_holding (wpAny_bind ((strKind P w).pyHash (Froz.is_str z u) ?_))
    have l1 := distinct_len (ws.take i) []
    rw [List.length_take] at l1
    refine setZ_add (s := { s1 with toks := s1.toks + 1 }) Z1 (by unfold distinct; simp only [List.length_nil] at l1; omega) fun b g sb Z2 => ?_
    have Z3 : SetZ P w g a (distinct (ws.take (i + 1))) := by
      have e2 : ws.take (i + 1) = ws.take i ++ [z] := by
        rw [List.take_add_one, ez]
        rfl
      rw [e2]
      unfold distinct
      rw [List.foldl_append]
      exact Z2
    refine wpAny_pure ⟨plainId_quiet F.plain_set_update_loop _, setZ_loop W out hn few hv m (i + 1) _ (by omega) (W.frame _ s1 _ _ st1 (Nat.le_succ _) fun b' hb o e => ?_) Z3 fun s2 m2 Z4 => q s2 (Moved.trans W.gtrans ((mv.mono fun b' h => List.mem_cons_of_mem _ h).then_heap (Nat.le_succ _) fun b' o hb e => ?_) m2) Z4⟩
    · exact (sb.2 b' fun h => out (by rw [← h]; exact hb)).trans e
    · exact (sb.2 b' fun h => hb (by rw [h]; exact List.mem_cons_self ..)).trans e
/-- a new set's object -/
def bareSet (w : World) : Obj := { cls := .type "set", dict := none, data := .set #[] 0 (.fresh 0 0 (!w.params.followText "set-order")) }
theorem bare_at {h : Heap} {a : Addr} (e : h.get? a = some (bareSet w)) : SetZ P w h a [] := by
  refine ⟨(#[], 0, .fresh 0 0 (!w.params.followText "set-order")), e, Froz.TxOk.nil rfl, ⟨List.Pairwise.nil, ?_⟩, List.nodup_nil⟩
  show _ ∨ (!w.params.followText "set-order") = true
  cases w.params.followText "set-order"
  · exact .inr rfl
  · exact .inl rfl
end
end Kx
/-! set(xs), sorted of it, its length. -/
namespace Kx
open PySem PySem.Spec PyProof.Rows L2
section
variable {P : Program} {w : World} {A : Around} {E : Value → Shared → Prop} {s : Shared}
theorem init_strs {b : Heap} {l : Addr} {its : Array Value} {ws : List Str} {R : Result → Shared → Prop} {n : Nat} {dd : Option Addr} {sl : Array (Option Value)} (calm : A.handled = none) (few : ws.length + 1 < scanBound) (r : StrsAre its.toList ws)
    (eb : s.heap.get? l = some { cls := .type "list", dict := dd, data := .seq its n, slots := sl }) (k : ∀ g tk, SetZ P w g s.heap.objs.size (distinct ws) → (∀ b o, s.heap.get? b = some o → g.get? b = some o) → R (.ok (.ret .none)) { s with heap := g, toks := tk }) :
    codeAny (model P w) A (.builtin "set.update.loop" ⟨[.ref s.heap.objs.size, .ref (s.heap.objs.size + 1)], []⟩) R
      { s with heap := (s.heap.push (bareSet w)).push { cls := .type "list_iterator", data := .fields #[.ref l, .int 0 0] } } := by
  have ll : l < s.heap.objs.size := Heap.lt_size eb
  have z1 : (s.heap.push (bareSet w)).objs.size = s.heap.objs.size + 1 := Heap.size_push ..
  have nl : l ≠ s.heap.objs.size + 1 := Nat.ne_of_lt (Nat.lt_succ_of_lt ll)
  have out : s.heap.objs.size ∉ [s.heap.objs.size + 1, l] := fun h => by
    rcases List.mem_cons.mp h with h | h
    · exact absurd h (Nat.ne_of_lt (Nat.lt_succ_self _))
    · exact absurd (List.mem_singleton.mp h) (Nat.ne_of_gt ll)
  have ln : its.size = ws.length := by
    have := StrsAre.length r
    rw [Array.length_toList] at this
    exact this
  have at0 : ((s.heap.push (bareSet w)).push { cls := .type "list_iterator", data := .fields #[.ref l, .int 0 0] }).get? (s.heap.objs.size + 1) = some { cls := .type "list_iterator", data := .fields #[.ref l, .int 0 0] } := by
    rw [← z1]
    exact Heap.get?_push_size _ rfl
  have it0 : Heap.IsListIter ((s.heap.push (bareSet w)).push { cls := .type "list_iterator", data := .fields #[.ref l, .int 0 0] }) (s.heap.objs.size + 1) l 0 := ⟨_, at0, rfl, rfl⟩
  have li0 : Heap.IsList ((s.heap.push (bareSet w)).push { cls := .type "list_iterator", data := .fields #[.ref l, .int 0 0] }) l its := ⟨_, Heap.get?_push_of_some _ (Heap.get?_push_of_some _ eb), rfl, n, rfl⟩
  refine setZ_loop (A := A) ((Walks.list (prog := P) (w := w) (A := A.in1) (by simp [calm]) (s.heap.objs.size + 1) l nl its).toS) out ln few (fun i v ev => ?_) its.size 0 _ (by omega) ⟨it0, li0⟩ (bare_at (Heap.get?_push_of_some _ (Heap.get?_push_size _ rfl))) fun s' mv Z => ?_
  · obtain ⟨u, e⟩ := SS.strs_at r i v (by rw [Array.getElem?_toList]; exact ev)
    have hi : i < ws.length := by rw [← ln]; exact (Array.getElem?_eq_some_iff.mp ev).1
    refine ⟨ws[i], u, List.getElem?_eq_getElem hi, ?_⟩
    rw [e, List.getD_eq_getElem?_getD, List.getElem?_eq_getElem hi] <;> rfl
  · have g0 : s'.gens = s.gens := mv.gens
    have d0 : s'.drawn = s.drawn := mv.drawn
    have o0 : s'.os = s.os := mv.os
    have e : s' = { s with heap := s'.heap, toks := s'.toks } := by
      obtain ⟨h', g', d', t', o'⟩ := s'
      dsimp only at g0 d0 o0
      subst g0 d0 o0
      rfl
    rw [e]
    refine k s'.heap s'.toks Z fun b o eo => mv.heap b o (fun h => ?_) (Heap.get?_push_of_some _ (Heap.get?_push_of_some _ eo))
    have lt := Heap.lt_size eo
    rcases List.mem_cons.mp h with h | h
    · exact absurd h (Nat.ne_of_lt lt)
    · exact absurd (List.mem_singleton.mp h) (Nat.ne_of_lt (Nat.lt_succ_of_lt lt))
end
section
variable {P : Program} {w : World} {A : Around} {E : Value → Shared → Prop} {s : Shared}
set_option maxHeartbeats 3200000 in
theorem call_setZ {l : Addr} {its : Array Value} {ws : List Str} {Q : Value → Shared → Prop} (calm : A.handled = none) (few : ws.length + 1 < scanBound) (r : StrsAre its.toList ws) (hl : s.heap.IsList l its)
    (q : ∀ g tk, SetZ P w g s.heap.objs.size (distinct ws) → (∀ b o, s.heap.get? b = some o → g.get? b = some o) → Q (.ref s.heap.objs.size) { s with heap := g, toks := tk }) : wpAny (model P w) A (call (.type "set") [.ref l]) Q E s := by
  obtain ⟨⟨oc, dd, od, sl⟩, e, ec, n, ed⟩ := hl
  change oc = .type "list" at ec
  change od = .seq its n at ed
  subst ec ed
  obtain ⟨c0, tl, mro⟩ := F.called_set.mro
  have made := F.called_set.made
  have self := F.called_set.sub
  have nty := F.called_set.notType
  have may := F.called_set.canCreate
  have tc := F.typeCall_set_1 (.ref l)
  refine wpAny_call (codeAny_of_tree ?_)
  show wpAny _ _ (callAny (.type "set") _) _ _ _
  refine wpAny_pure ⟨Code.quiet_builtin _ (by decide +kernel), codeAny_builtin F.entry_type_call ?_⟩
  rw [Around.under_plain (weight_type_call_type "set" [.ref l] []) rfl]
  repeat (any_goals (first | assumption | wp_step))
  refine codeAny_mono (code_set_led1 (.ref l) (E := E) (Q₁ := fun v s1 => v = .ref s.heap.objs.size ∧ s1 = { s with heap := s.heap.push (bareSet w) }) ⟨rfl, rfl⟩) fun x s1 hx => ?_
  match x, hx with
  | .error _, hx => exact hx
  | .ok (.ret v), hx =>
    obtain ⟨rfl, rfl⟩ := hx
    have ty : Shared.TypeIs { s with heap := s.heap.push (bareSet w) } (.ref s.heap.objs.size) "set" := ⟨_, Heap.get?_push_size _ rfl, rfl⟩
    have il := F.called_set.init.lookup
    have ib := F.called_set.init.bind (.ref s.heap.objs.size)
    repeat (any_goals (first | assumption | wp_step))
    refine codeAny_mono (codeAny_call_builtin (R := wants (fun v s2 => v = .none ∧ ∃ g tk, s2 = { s with heap := g, toks := tk } ∧ SetZ P w g s.heap.objs.size (distinct ws) ∧ (∀ b o, s.heap.get? b = some o → g.get? b = some o)) E)
      F.called_set.init.plain F.entry_set_init (check_set_init_1 ty ?_)) fun y s2 hy => ?_
    · have s1 := F.sub_list_set
      have s2 := F.sub_list_frozenset
      have nd : (Value.type "list" == Value.type "dict") = false := by decide
      have e1 : (s.heap.push (bareSet w)).get? l = some { cls := .type "list", dict := dd, data := .seq its n, slots := sl } := Heap.get?_push_of_some _ e
      have l1 : (s.heap.push (bareSet w)).IsList l its := ⟨_, e1, rfl, n, rfl⟩
      have z1 : (s.heap.push (bareSet w)).objs.size = s.heap.objs.size + 1 := Heap.size_push ..
      unfold Builtin.«set.__init__» noKeywords Builtin.Frozenset.updateFrom
      generalize hI : pyIter = IT
      wp_walk
      subst hI
      refine wpAny_pyIter_list l1 ?_
      refine wpAny_bind (wpAny_runValue ?_)
      rw [z1]
      refine init_strs (s := s) (n := n) (dd := dd) (sl := sl) (b := s.heap) ?_ few r e fun g tk Z kp => ?_
      · simp [calm]
      · refine wpAny_pure ?_
        show wpAny _ _ (ret Value.none) _ _ _
        exact wpAny_pure ⟨rfl, g, tk, rfl, Z, kp⟩
    · match y, hy with
      | .error _, hy => exact hy
      | .ok (.ret v), hy =>
        obtain ⟨rfl, g, tk, rfl, Z, kp⟩ := hy
        repeat (any_goals (first | assumption | wp_step))
        exact q g tk Z kp
      | .ok .next, hy => exact hy.elim
      | .ok (.brk), hy => exact hy.elim
      | .ok (.cont), hy => exact hy.elim
  | .ok .next, hx => exact hx.elim
  | .ok (.brk), hx => exact hx.elim
  | .ok (.cont), hx => exact hx.elim
end
end Kx
set_option maxHeartbeats 1000000
/-! the rules. -/
namespace Kx
open PySem PySem.Spec PyProof.Rows L2
/-- the set of the texts zs at a -/
def ZO (P : Program) (w : World) (a : Addr) (zs : List Str) : HO := .ext fun h => SetZ P w h a zs
theorem perm_all : ∀ {zs ks : List Str}, zs.Nodup → (∀ z ∈ zs, z ∈ ks) → ks.length ≤ zs.length → ks.Perm zs
  | [], ks, _, _, l => by
    have : ks = [] := List.eq_nil_of_length_eq_zero (by simpa using l)
    rw [this]
  | z :: r, ks, nd, sub, l => by
    obtain ⟨n1, n2⟩ := List.nodup_cons.mp nd
    have zk := sub z (List.mem_cons_self ..)
    have le := List.length_erase_of_mem zk
    have lp := List.length_pos_of_mem zk
    refine (List.perm_cons_erase zk).trans (List.Perm.cons z (perm_all n2 (fun y hy => ?_) ?_))
    · exact (List.mem_erase_of_ne fun e => n1 (by rw [← e]; exact hy)).mpr (sub y (List.mem_cons_of_mem _ hy))
    · rw [List.length_cons] at l; omega
theorem texts_of {P : Program} {w : World} : ∀ (l : List Value), (∀ v ∈ l, ∃ z u, v = Value.str z u) → ∃ ks, StrsAre l ks ∧ ∀ z, z ∈ ks ↔ ∃ v ∈ l, (strKind P w).is z v = true
  | [], _ => ⟨[], .nil, fun z => by simp⟩
  | v :: l, h => by
    obtain ⟨z, u, rfl⟩ := h v (List.mem_cons_self ..)
    obtain ⟨ks, r, m⟩ := texts_of l fun x hx => h x (List.mem_cons_of_mem _ hx)
    refine ⟨z :: ks, .cons z u r, fun y => ?_⟩
    have iy : (strKind P w).is y (.str z u) = true ↔ y = z := ⟨fun e => (strKind P w).inj (.str z u) y z e (Froz.is_str z u), fun e => by rw [e]; exact Froz.is_str z u⟩
    constructor
    · intro hy
      rcases List.mem_cons.mp hy with e | e
      · exact ⟨_, List.mem_cons_self .., iy.mpr e⟩
      · obtain ⟨x, hx, ix⟩ := (m y).mp e
        exact ⟨x, List.mem_cons_of_mem _ hx, ix⟩
    · rintro ⟨x, hx, ix⟩
      rcases List.mem_cons.mp hx with e | e
      · rw [e] at ix
        exact List.mem_cons.mpr (.inl (iy.mp ix))
      · exact List.mem_cons_of_mem _ ((m y).mpr ⟨x, e, ix⟩)
section
variable {X : Cx}
theorem strs_vals : ∀ {ys : List Str} {us : List Value}, Vals (ys.map V.str) us → StrsAre us ys
  | [], _, .nil => .nil
  | y :: ys, _, .cons r t => by
    obtain ⟨k, rfl⟩ := r
    exact .cons y k (strs_vals t)
def rSetZ (P : Program) (w : World) (K : PySem.W.Frag) : List V → Hp → VK → Prop := fun xs H Q => ∃ (l : Addr) (ws : List Str), xs = [.ref l] ∧ SqL K H l (ws.map V.str) ∧ ws.length ≤ 1000 ∧
  ∀ p zs, H p = none → zs.Nodup → (∀ z, z ∈ zs ↔ z ∈ ws) → zs.length ≤ ws.length → Q (.ref p) (upd H p (ZO P w p zs))
theorem cr_setZ (hc : X.calm = true) : CallR X (.type "set") (rSetZ X.prog X.w X.K) := by
  intro pins s σ H xs us Q I r h
  obtain ⟨l, ws, rfl, hS, few, q⟩ := h
  obtain ⟨its, rv, pl, _⟩ := I.list hS
  rw [Vals.ref1 r]
  refine call_setZ (ws := ws) (I.ok.hd hc) (by unfold scanBound; omega) (by simpa using strs_vals rv) pl.isList fun g tk Z kp => ?_
  have Z0 := Z
  obtain ⟨D, e, T, L, nd⟩ := Z
  have J : Inv X pins σ (upd H s.heap.objs.size (ZO X.prog X.w s.heap.objs.size (distinct ws))) { s with heap := g, toks := tk } :=
    I.laid (t' := tk) kp (Nat.le_refl _) ⟨Z0, ⟨_, e⟩, fun h1 h2 p k => SetZ.at p k⟩
  refine ⟨.ref s.heap.objs.size, _, J, rfl, q _ _ (I.hok.fresh (Nat.le_refl _)) nd (fun z => ?_) ?_⟩
  · unfold distinct
    rw [distinct_mem]
    simp
  · have := distinct_len ws []
    unfold distinct
    simpa using this
theorem setZ_get {pins : List (Addr × Obj)} {σ : L2.St} {H : Hp} {s : Shared} {a : Addr} {zs : List Str} (I : Inv X pins σ H s) (e : H a = some (ZO X.prog X.w a zs)) : SetZ X.prog X.w s.heap a zs := (I.hok a _ e).1
def rSortZ (P : Program) (w : World) : List V → Hp → VK → Prop := fun vs H Q => ∃ (a : Addr) (zs : List Str), vs = [.ref a] ∧ H a = some (ZO P w a zs) ∧ zs.length < 64 ∧
  ∀ (ys : List Str) (p : Addr), ys.Perm zs → sortedS ys = true → H p = none → Q (.ref p) (upd H p (.lst (ys.map V.str)))
theorem cr_sortZ (hc : X.calm = true) : CallR X (.builtin "sorted") (rSortZ X.prog X.w) := by
  intro pins s σ H vs us Q I r h
  obtain ⟨a, zs, rfl, ha, h64, q⟩ := h
  obtain ⟨⟨es, ep, t⟩, e, T, L, nd⟩ := setZ_get I ha
  have sz : es.size = zs.length := T.sz
  rw [Vals.ref1 r]
  refine Calls.call_function_entry PyProof.Rows.kind_sorted PyProof.Rows.plain_sorted PyProof.Rows.entry_sorted (PyProof.Rows.args_sorted1 _) ?_
  unfold Builtin.«sorted»
  refine wpAny_bind (m := checkCount "sorted" 1 1 _) (wpAny_pure ?_)
  refine wpAny_bind (collect_set (A := X.A.in1) (I.ok.hd hc) ⟨_, e, rfl, rfl⟩ T.fit (by show es.size < scanBound; unfold scanBound; omega) L.ris L.led fun s1 out kp _ g1 o1 pm => ?_)
  have good : ∀ v ∈ out, ∃ z u, v = Value.str z u := fun v hv => by
    obtain ⟨x, hx, rfl⟩ := List.mem_map.mp (pm.mem_iff.mp hv)
    obtain ⟨⟨k, ek, _⟩, _⟩ := T.el x hx
    obtain ⟨u, ev⟩ := Value.isStrOf_shape (x := k) (v := x.2) ek
    exact ⟨k, u, ev⟩
  obtain ⟨ks, rk, mk⟩ := texts_of (P := X.prog) (w := X.w) out good
  have lo : out.length = zs.length := by rw [pm.length_eq, List.length_map, Array.length_toList]; exact sz
  have lk : ks.length = out.length := (StrsAre.length rk).symm
  have pk : ks.Perm zs := perm_all nd (fun z hz => by
    obtain ⟨x, hx, ix⟩ := (T.mem z).mp hz
    exact (mk z).mpr ⟨x.2, pm.mem_iff.mpr (List.mem_map.mpr ⟨x, hx, rfl⟩), ix⟩) (by omega)
  have e1 : s1 = { s with heap := s1.heap, gens := s1.gens, drawn := s1.drawn, toks := s1.toks } := by
    cases s1
    cases s
    cases o1
    rfl
  refine wpAny_bind (wpAny_newList ?_ (by rw [lo, sizeLine_eq]; omega))
  have at1 : (s1.heap.push (seqObj "list" out.toArray 0)).get? s1.heap.objs.size = some (seqObj "list" out.toArray 0) := Heap.get?_push_size _ rfl
  refine wpAny_bind (wpAny_holding (wpAny_call_entry slot_list_sort ⟨_, at1, rfl⟩ entry_list_sort
    (list_sort_treeK strKind_oneLt (s := { s1 with heap := s1.heap.push (seqObj "list" out.toArray 0) }) at1 rk.keysOf (fun x y rest eq => keyKind_strs (by rw [← eq]; exact rk)) (by rw [lo]; exact h64) fun st hp hs => ⟨_, rfl, ?_⟩) (args_list_sort _)))
  obtain ⟨ys, y1, y2, y3⟩ := sorted_out_str rk hp hs
  obtain ⟨n2, at2⟩ := sortedHeap_at (vs := out) (out := (arrOf st).map (·.2)) at1
  have ly : (ys.map V.str).length ≤ sizeLine := by
    rw [List.length_map, y2.length_eq, lk, lo]
    exact Nat.le_trans (Nat.le_of_lt h64) (by decide)
  have le : s.heap.objs.size ≤ s1.heap.objs.size := by assumption
  have hn : H s1.heap.objs.size = none := I.hok.fresh le
  have kp2 : ∀ b o, s.heap.get? b = some o → (sortedHeap (s1.heap.push (seqObj "list" out.toArray 0)) s1.heap.objs.size out ((arrOf st).map (·.2))).get? b = some o := fun b o eb => by
    have z := kp b o eb
    have lt := Heap.lt_size z
    rw [sortedHeap_old (Nat.ne_of_lt lt) (by rw [size_push']; exact Nat.lt_succ_of_lt lt)]
    exact Heap.get?_push_of_some _ z
  have J : Inv X pins σ (upd H s1.heap.objs.size (.lst (ys.map V.str))) { s1 with heap := sortedHeap (s1.heap.push (seqObj "list" out.toArray 0)) s1.heap.objs.size out ((arrOf st).map (·.2)) } := by
    have J0 : Inv X pins σ (upd H s1.heap.objs.size (.lst (ys.map V.str))) { s with heap := sortedHeap (s1.heap.push (seqObj "list" out.toArray 0)) s1.heap.objs.size out ((arrOf st).map (·.2)), gens := s1.gens, drawn := s1.drawn, toks := s1.toks } :=
      I.call (ch := []) (Un.laid kp2 le hn) (I.hok.laid kp2 le ⟨ly, ((arrOf st).map (·.2)).toList, n2, vals_of_strs y1, by rw [Array.toArray_toList]; exact at2⟩) (by rw [g1]; exact I.bare) (fun _ z => nomatch z)
    rw [e1]
    exact J0
  exact wpAny_pure ⟨_, rfl, .ref s1.heap.objs.size, _, J, rfl, q ys _ (y2.trans pk) y3 hn⟩
/-- a part of a tuple, told as an object that stands as it is -/
def rSlF (K : PySem.W.Frag) : V → Option Int → Option Int → Hp → VK → Prop := fun x lo hi H Q => ∃ a xs, x = .ref a ∧ SqT K H a xs ∧
  ¬ (HT.sIx xs.length 0 lo = 0 ∧ HT.sIx xs.length xs.length hi = xs.length) ∧ ∀ p (o : Obj), H p = none → o.dict = none → o.slots = #[] → Q (.ref p) (upd H p (.frz o (.tup (cutV xs lo hi))))
theorem sl_tupF : SlR X (rSlF X.K) := by
  intro pins s σ H x v vl vu lo hi sl Q I rx hs pl pu h
  obtain ⟨a, xs, rfl, e, no, q⟩ := h
  cases rx
  obtain ⟨its, r, ht, hz⟩ := I.tuple e
  have ln : its.toArray.size = xs.length := by rw [List.size_toArray]; exact r.length.symm
  refine ⟨"tuple", _, PyProof.Rows.slot_tuple_getitem.lookup, ht.typeIs, HT.getItem_tuple_cut ht hs pl pu (by rw [ln]; exact no) ?_ (by rw [ln]; exact hz)⟩
  rw [ln]
  refine ⟨.ref s.heap.objs.size, _, I.laid (t' := s.toks) (o := .frz { cls := .type "tuple", data := .seq ((its.drop (HT.sIx xs.length 0 lo)).take (HT.sIx xs.length xs.length hi - HT.sIx xs.length 0 lo)).toArray } (.tup (cutV xs lo hi))) (fun b ob q => Heap.get?_push_of_some _ q) (Nat.le_refl _) ?_, rfl, q _ _ (I.hok.fresh (Nat.le_refl _)) rfl rfl⟩
  exact ⟨Heap.get?_push_size _ rfl, Nat.le_trans (cutV_length xs lo hi) hz, _, (r.drop (HT.sIx xs.length 0 lo)).take (HT.sIx xs.length xs.length hi - HT.sIx xs.length 0 lo), IsTup.new _ _⟩
/-- tuple(xs), inside a comprehension -/
def rTupOf (K : PySem.W.Frag) : List V → Hp → VK → Prop := fun xs H Q => ∃ p ys, xs = [V.ref p] ∧ ((SqL K H p ys ∧ ∀ (l : Addr), H l = none → Q (V.ref l) (upd H l (HO.tup ys))) ∨ SqT K H p ys ∧ Q (V.ref p) H)
theorem tupOfK {K : PySem.W.Frag} (h : X.K = K := by rfl) : CallR X (.type "tuple") (rTupOf K) := by
  subst h
  exact call_tuple_of
end
end Kx
set_option maxHeartbeats 1000000
/-! Rules: len of what is a list or a tuple, len of a set, == of plain data, xs.count(z) of texts. -/
namespace Kx
open PySem PySem.Spec PyProof.Rows L2
section
variable {X : Cx}
theorem lenSeqK {K : PySem.W.Frag} (h : X.K = K := by rfl) : CallR X (.builtin "len") (fun xs H Q => ∃ p ys, xs = [.ref p] ∧ (SqL K H p ys ∨ SqT K H p ys) ∧ Q (.int (ys.length : Int)) H) := by subst h; exact call_len_seq
theorem cr_lenZ : CallR X (.builtin "len") (fun vs H Q => ∃ (a : Addr) (zs : List Str), vs = [.ref a] ∧ H a = some (ZO X.prog X.w a zs) ∧ zs.length ≤ 1000 ∧ Q (.int (zs.length : Nat)) H) := by
  intro pins s σ H vs us Q I r h
  obtain ⟨a, zs, rfl, ha, few, q⟩ := h
  obtain ⟨⟨es, ep, t⟩, e, T, L, nd⟩ := setZ_get I ha
  have sz : es.size = zs.length := T.sz
  rw [Vals.ref1 r]
  refine call_len_set e ⟨rfl, rfl, rfl⟩ rfl T.fit (by show ((es.size : Nat) : Int) < 2 ^ 63; rw [sz]; have : (2 : Int) ^ 63 = 9223372036854775808 := rfl; omega) ?_
  refine ⟨.int (zs.length : Nat), H, I.kept (t' := s.toks + 1 + 1) fun b o e => e, ?_, q⟩
  show RelV (V.int ((zs.length : Nat) : Int)) (Value.int ((es.size : Nat) : Int) (s.toks + 1))
  rw [sz]
  exact ⟨_, rfl⟩
theorem u64 {A : Around} {k : Nat} (r : Room k A) : A.units + 64 < cLine := by have := r.un; omega
theorem eqDK {K : PySem.W.Frag} (hu : X.A.units + 64 < cLine) (hK : X.K = K := by rfl) : OpR X (compareOp .Eq) (rEqD K) := by subst hK; exact op_eqD hu
def rCntZ (K : PySem.W.Frag) : V → List V → Hp → VK → Prop := fun x xs H Q => ∃ (p : Addr) (zs : List Str) (z : Str), x = .ref p ∧ xs = [.str z] ∧ SqL K H p (zs.map V.str) ∧ Q (.int (zs.count z : Nat)) H
def isV (z : Str) : Value → Bool
  | .str y _ => y == z
  | _ => false
theorem count_at (z : Str) : ∀ {zs : List Str} {its : List Value}, Vals (zs.map V.str) its → its.countP (isV z) = zs.count z
  | [], its, r => by
    have := r.length
    cases its with
    | nil => rfl
    | cons _ _ => simp at this
  | y :: zs, its, r => by
    cases r with
    | cons h r =>
      obtain ⟨u, e⟩ := (show ∃ t, _ = Value.str y t from h)
      subst e
      rw [List.countP_cons, count_at z r, List.count_cons]
      rfl
theorem mt_countZ {K : PySem.W.Frag} (hK : X.K = K := by rfl) : MtR X "list.count" (rCntZ K) := by
  subst hK
  intro pins s σ H x xs v us Q I rx rxs h
  obtain ⟨p, zs, z, rfl, rfl, hs, q⟩ := h
  cases (show v = Value.ref p from rx)
  obtain ⟨u, rfl, ru⟩ := rxs.one
  obtain ⟨t, rfl⟩ := (show ∃ t, u = Value.str z t from ru)
  obtain ⟨its, rv, ⟨⟨cls, dd, data, sl⟩, n, ho, hc, hdn, hd⟩, hlen⟩ := I.list hs
  simp only at hc hdn hd
  subst hc hdn hd
  refine call_meets F.slot_list_count ⟨_, ho, rfl⟩ F.entry_list_count (F.args_list_count_2 _ _) (SeqAt.list_countAt p its.toArray n none sl (.str z t) (isV z)) ⟨ho, fun y hy => ?_, ?_⟩
  · obtain ⟨y', u', _, rfl⟩ := texts_at (P := X.prog) (w := X.w) rv y (by simpa using hy)
    exact .str_str y' u' z t
  · refine ⟨.int (zs.count z : Nat), H, I.kept (t' := s.toks + 1) fun b o e => e, ?_, q⟩
    rw [count_at z rv]
    exact ⟨_, rfl⟩
end
end Kx
namespace Kx
open PySem PySem.Spec PyProof.Rows L2
/-- o.m(e, ..) inside a comprehension -/
theorem pe_bmK {X : Cx} {K : PySem.W.Frag} {o e : Expr} {es : List Expr} {to : TE} {t : TA} {name : Str} {apos cpos : Pos} {T id : String} {r : V → List V → Hp → VK → Prop}
    (h1 : PlainAttrs T) (h2 : Slot T name id) (h3 : typeOf (.builtin id) = pure (.type "method_descriptor")) (h4 : MtR X id r) (h5 : PE X o to) (h6 : PA X (e :: es) t)
    (hb : attributeBase o name X.env (eval o X.env) = eval o X.env := by rfl)
    (hc : ((((backTo cpos (starEach (e :: es) X.env)).all fun x => !x.fst) && (backToKw cpos (keywordEach [] X.env)).all fun x => x.fst.isSome) && decide (((e :: es).length + ([] : List Keyword).length + if ([] : List Keyword).isEmpty = true then 0 else 1) < 30)) = true := by rfl)
    (hline : (apos.endLine == cpos.line) = true := by rfl)
    (he : starEach (e :: es) X.env = (false, eval e X.env) :: starEach es X.env := by rfl)
    (hpl : ((backTo cpos (starEach es X.env)).any fun x => x.fst) = false := by rfl)
    (hK : X.K = K := by rfl) : PE X ((o.Attribute name apos).Call (e :: es) [] cpos) (tBM K T r to t) := by
  subst hK
  exact pe_bm h1 h2 h3 h4 h5 h6 hb hc hline he hpl
theorem isiK {X : Cx} {K : PySem.W.Frag} (h : X.K = K := by rfl) : CallR X (.builtin "isinstance") (rIsi K) := by subst h; exact call_isi
theorem lc_str {z : Str} {g : TG} {tt : TT} {te : TE} {vs : List Nat} {σ : L2.St} {H1 : Hp} {D : Addr} {Qd : Hp → Prop} (Pv : Nat → Hp → Prop) (h0 : Pv 0 (upd H1 D (.lst [])))
    (hs : ∀ (i : Nat) (c : Nat) (H : Hp), z.cps[i]? = some c → Pv i H → g (.str ⟨#[c]⟩) (wipe σ vs) H fun σ2 H2 => wipe σ2 vs = wipe σ vs ∧ tt σ2 H2 fun b H3 => if b = true then te σ2 H3 fun y H4 => ∃ acc, H4 D = some (.lst acc) ∧ acc.length < sizeLine ∧ Pv (i + 1) (upd H4 D (.lst (acc ++ [y]))) else Pv (i + 1) H3)
    (hd : ∀ H, Pv z.cps.size H → Qd H) :
    ∃ W : Nat → Nat → Hp → Prop, (∃ m, W 0 m (upd H1 D (.lst []))) ∧ ∀ (i m : Nat) (H : Hp), W i m H → (Its z).stop i H ∧ Qd H ∨ (Its z).go i H ∧ ∃ Nx : Hp → Prop, (∀ H', Nx H' → ∃ m', m' < m ∧ W (i + 1) m' H') ∧ ∀ (x : V) (H' : Hp), (Its z).yld i H x H' →
      g x (wipe σ vs) H' fun σ2 H2 => wipe σ2 vs = wipe σ vs ∧ tt σ2 H2 fun b H3 => if b = true then te σ2 H3 fun y H4 => ∃ acc, H4 D = some (.lst acc) ∧ acc.length < sizeLine ∧ Nx (upd H4 D (.lst (acc ++ [y]))) else Nx H3 := by
  refine ⟨fun i m H => m = z.cps.size - i ∧ i ≤ z.cps.size ∧ Pv i H, ⟨_, rfl, Nat.zero_le _, h0⟩, ?_⟩
  rintro i m H ⟨rfl, hi, p⟩
  by_cases h : i < z.cps.size
  · refine .inr ⟨h, Pv (i + 1), fun H' p' => ⟨z.cps.size - (i + 1), by omega, rfl, by omega, p'⟩, ?_⟩
    rintro x H' ⟨rfl, c, hc, rfl⟩
    exact hs i c _ hc p
  · have : i = z.cps.size := by omega
    subst this
    exact .inl ⟨Nat.le_refl _, hd H p⟩
theorem u0 {A : Around} {k : Nat} (r : Room k A) : A.units < cLine := by have := r.un; omega
end Kx
/-! set(xs), sorted of it, its length. -/
namespace Kx
open PySem PySem.Spec PyProof.Rows L2
section
variable {P : Program} {w : World} {A : Around} {E : Value → Shared → Prop} {s : Shared}
theorem init_strsT {b : Heap} {l : Addr} {its : Array Value} {ws : List Str} {R : Result → Shared → Prop} {n : Nat} {dd : Option Addr} {sl : Array (Option Value)} (calm : A.handled = none) (few : ws.length + 1 < scanBound) (r : StrsAre its.toList ws)
    (eb : s.heap.get? l = some { cls := .type "tuple", dict := dd, data := .seq its n, slots := sl }) (k : ∀ g tk, SetZ P w g s.heap.objs.size (distinct ws) → (∀ b o, s.heap.get? b = some o → g.get? b = some o) → R (.ok (.ret .none)) { s with heap := g, toks := tk }) :
    codeAny (model P w) A (.builtin "set.update.loop" ⟨[.ref s.heap.objs.size, .ref (s.heap.objs.size + 1)], []⟩) R
      { s with heap := (s.heap.push (bareSet w)).push { cls := .type "tuple_iterator", data := .fields #[.ref l, .int 0 0] } } := by
  have ll : l < s.heap.objs.size := Heap.lt_size eb
  have z1 : (s.heap.push (bareSet w)).objs.size = s.heap.objs.size + 1 := Heap.size_push ..
  have nl : l ≠ s.heap.objs.size + 1 := Nat.ne_of_lt (Nat.lt_succ_of_lt ll)
  have out : s.heap.objs.size ∉ [s.heap.objs.size + 1, l] := fun h => by
    rcases List.mem_cons.mp h with h | h
    · exact absurd h (Nat.ne_of_lt (Nat.lt_succ_self _))
    · exact absurd (List.mem_singleton.mp h) (Nat.ne_of_gt ll)
  have ln : its.size = ws.length := by
    have := StrsAre.length r
    rw [Array.length_toList] at this
    exact this
  have at0 : ((s.heap.push (bareSet w)).push { cls := .type "tuple_iterator", data := .fields #[.ref l, .int 0 0] }).get? (s.heap.objs.size + 1) = some { cls := .type "tuple_iterator", data := .fields #[.ref l, .int 0 0] } := by
    rw [← z1]
    exact Heap.get?_push_size _ rfl
  have it0 : Heap.IsTupleIter ((s.heap.push (bareSet w)).push { cls := .type "tuple_iterator", data := .fields #[.ref l, .int 0 0] }) (s.heap.objs.size + 1) l 0 := ⟨_, at0, rfl, rfl⟩
  have li0 : Heap.IsTuple ((s.heap.push (bareSet w)).push { cls := .type "tuple_iterator", data := .fields #[.ref l, .int 0 0] }) l its := ⟨_, Heap.get?_push_of_some _ (Heap.get?_push_of_some _ eb), rfl, n, rfl⟩
  refine setZ_loop (A := A) ((Walks.tuple (prog := P) (w := w) (A := A.in1) (by simp [calm]) (s.heap.objs.size + 1) l nl its).toS) out ln few (fun i v ev => ?_) its.size 0 _ (by omega) ⟨it0, li0⟩ (bare_at (Heap.get?_push_of_some _ (Heap.get?_push_size _ rfl))) fun s' mv Z => ?_
  · obtain ⟨u, e⟩ := SS.strs_at r i v (by rw [Array.getElem?_toList]; exact ev)
    have hi : i < ws.length := by rw [← ln]; exact (Array.getElem?_eq_some_iff.mp ev).1
    refine ⟨ws[i], u, List.getElem?_eq_getElem hi, ?_⟩
    rw [e, List.getD_eq_getElem?_getD, List.getElem?_eq_getElem hi] <;> rfl
  · have g0 : s'.gens = s.gens := mv.gens
    have d0 : s'.drawn = s.drawn := mv.drawn
    have o0 : s'.os = s.os := mv.os
    have e : s' = { s with heap := s'.heap, toks := s'.toks } := by
      obtain ⟨h', g', d', t', o'⟩ := s'
      dsimp only at g0 d0 o0
      subst g0 d0 o0
      rfl
    rw [e]
    refine k s'.heap s'.toks Z fun b o eo => mv.heap b o (fun h => ?_) (Heap.get?_push_of_some _ (Heap.get?_push_of_some _ eo))
    have lt := Heap.lt_size eo
    rcases List.mem_cons.mp h with h | h
    · exact absurd h (Nat.ne_of_lt lt)
    · exact absurd (List.mem_singleton.mp h) (Nat.ne_of_lt (Nat.lt_succ_of_lt lt))
end
section
variable {P : Program} {w : World} {A : Around} {E : Value → Shared → Prop} {s : Shared}
set_option maxHeartbeats 3200000 in
theorem call_setZT {l : Addr} {its : Array Value} {ws : List Str} {Q : Value → Shared → Prop} (calm : A.handled = none) (few : ws.length + 1 < scanBound) (r : StrsAre its.toList ws) (hl : s.heap.IsTuple l its)
    (q : ∀ g tk, SetZ P w g s.heap.objs.size (distinct ws) → (∀ b o, s.heap.get? b = some o → g.get? b = some o) → Q (.ref s.heap.objs.size) { s with heap := g, toks := tk }) : wpAny (model P w) A (call (.type "set") [.ref l]) Q E s := by
  obtain ⟨⟨oc, dd, od, sl⟩, e, ec, n, ed⟩ := hl
  change oc = .type "tuple" at ec
  change od = .seq its n at ed
  subst ec ed
  obtain ⟨c0, tl, mro⟩ := F.called_set.mro
  have made := F.called_set.made
  have self := F.called_set.sub
  have nty := F.called_set.notType
  have may := F.called_set.canCreate
  have tc := F.typeCall_set_1 (.ref l)
  refine wpAny_call (codeAny_of_tree ?_)
  show wpAny _ _ (callAny (.type "set") _) _ _ _
  refine wpAny_pure ⟨Code.quiet_builtin _ (by decide +kernel), codeAny_builtin F.entry_type_call ?_⟩
  rw [Around.under_plain (weight_type_call_type "set" [.ref l] []) rfl]
  repeat (any_goals (first | assumption | wp_step))
  refine codeAny_mono (code_set_led1 (.ref l) (E := E) (Q₁ := fun v s1 => v = .ref s.heap.objs.size ∧ s1 = { s with heap := s.heap.push (bareSet w) }) ⟨rfl, rfl⟩) fun x s1 hx => ?_
  match x, hx with
  | .error _, hx => exact hx
  | .ok (.ret v), hx =>
    obtain ⟨rfl, rfl⟩ := hx
    have ty : Shared.TypeIs { s with heap := s.heap.push (bareSet w) } (.ref s.heap.objs.size) "set" := ⟨_, Heap.get?_push_size _ rfl, rfl⟩
    have il := F.called_set.init.lookup
    have ib := F.called_set.init.bind (.ref s.heap.objs.size)
    repeat (any_goals (first | assumption | wp_step))
    refine codeAny_mono (codeAny_call_builtin (R := wants (fun v s2 => v = .none ∧ ∃ g tk, s2 = { s with heap := g, toks := tk } ∧ SetZ P w g s.heap.objs.size (distinct ws) ∧ (∀ b o, s.heap.get? b = some o → g.get? b = some o)) E)
      F.called_set.init.plain F.entry_set_init (check_set_init_1 ty ?_)) fun y s2 hy => ?_
    · have s1 := F.sub_tuple_set
      have s2 := F.sub_tuple_frozenset
      have nd : (Value.type "tuple" == Value.type "dict") = false := by decide
      have e1 : (s.heap.push (bareSet w)).get? l = some { cls := .type "tuple", dict := dd, data := .seq its n, slots := sl } := Heap.get?_push_of_some _ e
      have l1 : (s.heap.push (bareSet w)).IsTuple l its := ⟨_, e1, rfl, n, rfl⟩
      have z1 : (s.heap.push (bareSet w)).objs.size = s.heap.objs.size + 1 := Heap.size_push ..
      unfold Builtin.«set.__init__» noKeywords Builtin.Frozenset.updateFrom
      generalize hI : pyIter = IT
      wp_walk
      subst hI
      refine wpAny_pyIter_tuple l1 ?_
      refine wpAny_bind (wpAny_runValue ?_)
      rw [z1]
      refine init_strsT (s := s) (n := n) (dd := dd) (sl := sl) (b := s.heap) ?_ few r e fun g tk Z kp => ?_
      · simp [calm]
      · refine wpAny_pure ?_
        show wpAny _ _ (ret Value.none) _ _ _
        exact wpAny_pure ⟨rfl, g, tk, rfl, Z, kp⟩
    · match y, hy with
      | .error _, hy => exact hy
      | .ok (.ret v), hy =>
        obtain ⟨rfl, g, tk, rfl, Z, kp⟩ := hy
        repeat (any_goals (first | assumption | wp_step))
        exact q g tk Z kp
      | .ok .next, hy => exact hy.elim
      | .ok (.brk), hy => exact hy.elim
      | .ok (.cont), hy => exact hy.elim
  | .ok .next, hx => exact hx.elim
  | .ok (.brk), hx => exact hx.elim
  | .ok (.cont), hx => exact hx.elim
end
section
variable {X : Cx}
def rSetZT (P : Program) (w : World) (K : PySem.W.Frag) : List V → Hp → VK → Prop := fun xs H Q => ∃ (l : Addr) (ws : List Str), xs = [.ref l] ∧ SqT K H l (ws.map V.str) ∧ ws.length ≤ 1000 ∧
  ∀ p zs, H p = none → zs.Nodup → (∀ z, z ∈ zs ↔ z ∈ ws) → zs.length ≤ ws.length → Q (.ref p) (upd H p (ZO P w p zs))
theorem cr_setZT (hc : X.calm = true) : CallR X (.type "set") (rSetZT X.prog X.w X.K) := by
  intro pins s σ H xs us Q I r h
  obtain ⟨l, ws, rfl, hS, few, q⟩ := h
  obtain ⟨its, rv, pl, _⟩ := I.tuple hS
  rw [Vals.ref1 r]
  refine call_setZT (ws := ws) (I.ok.hd hc) (by unfold scanBound; omega) (by simpa using strs_vals rv) pl fun g tk Z kp => ?_
  have Z0 := Z
  obtain ⟨D, e, T, L, nd⟩ := Z
  have J : Inv X pins σ (upd H s.heap.objs.size (ZO X.prog X.w s.heap.objs.size (distinct ws))) { s with heap := g, toks := tk } :=
    I.laid (t' := tk) kp (Nat.le_refl _) ⟨Z0, ⟨_, e⟩, fun h1 h2 p k => SetZ.at p k⟩
  refine ⟨.ref s.heap.objs.size, _, J, rfl, q _ _ (I.hok.fresh (Nat.le_refl _)) nd (fun z => ?_) ?_⟩
  · unfold distinct
    rw [distinct_mem]
    simp
  · have := distinct_len ws []
    unfold distinct
    simpa using this
end
/-- each once, all in: the lengths tell whether they stood once -/
theorem set_len {zs ws : List Str} (nd : zs.Nodup) (m : ∀ z, z ∈ zs ↔ z ∈ ws) (le : zs.length ≤ ws.length) : decide (zs.length = ws.length) = decide ws.Nodup := by
  refine decide_eq_decide.mpr ⟨fun e => ?_, fun nw => ?_⟩
  · exact (perm_all nd (fun z hz => (m z).mp hz) (by omega)).nodup_iff.mpr nd
  · exact Nat.le_antisymm le (nw.length_le_of_subset fun z hz => (m z).mpr hz)
end Kx
namespace Kx
open PySem PySem.Spec PyProof.Rows L2
section
variable {P : Program} {w : World} {K : PySem.W.Frag} {mg : Str → Option Value} {base : Heap}
set_option pp.maxSteps 900
/-! ### words, rows, makers, families -/
def spWord : Sp := fun vs H Q _ => ∃ v t n, vs = [v] ∧ Is H v t ∧ Ok n t ∧ Q (.bl (wordB t)) H
theorem ok_is_word (T : Txt K mg)  : FnOk P w K mg base CX0 1 T.a_is_word T.d_is_word ["value"] spWord := by
  refine T.F_is_word.ok sc_is_word (fun vs H Q E h => ?_) (fun cdv A outer s H vs Q E hr h => ?_)
  · obtain ⟨v, t, n, rfl, _⟩ := h; rfl
  · obtain ⟨v, t, n, rfl, hI, hO, q⟩ := h
    refine ⟨_, (pss_cons (ps_if (PW.pt (pw_or (pt_not (pt_val (pe_callB call_isi (by rfl) T.z_isinstance (by decide +kernel) (pa_cons (pv 0) (pa_cons (pe_bltn rfl T.z_str (by decide +kernel) (show RelV (V.ty "str") (Value.type "str") from rfl)) pa_nil))))) (pw_or1 (pt_not (pt_chain op_le op_le pe_int (pe_callB call_len_str (by rfl) T.z_len (by decide +kernel) (pa_cons (pv 0) pa_nil)) (pe_glob (by rfl) T.g_MOST_NAME (show RelV (V.int 12) (.int 12 T.t_MOST_NAME) from ⟨_, rfl⟩)) (by with_unfolding_all rfl)))))) (pss_one (ps_ret pe_bl)) pss_nil)
    (pss_one (ps_ret (pe_and (pe_bm0 PySem.F.plainAttrs_str PySem.F.slot_str_isascii PySem.F.type_str_isascii mt_isascii (pv 0)) (pe_and (pe_m0 PySem.F.slot_str_isalnum PySem.F.type_str_isalnum mt_isalnum (pv 0)) (pe_one (pe_m0 PySem.F.slot_str_isalpha PySem.F.type_str_isalpha mt_isalpha (pe_ix ix_str (pv 0) pe_int (fun _ _ => rfl))))))))), ?_⟩
    obtain ⟨u, ty, kt⟩ := hI.ty (K := K)
    refine ⟨_, rfl, _, _, u, _, _, rfl, .ty _, ty, kit_str kt, _, rfl, ?_⟩
    cases t with
    | oth _ => exact iteT (iteT q)
    | tup _ => exact iteT (iteT q)
    | str z =>
    refine iteF ?_
    cases hI.str_inv
    have hl : z.length ≤ 100 := by
      cases n with
      | zero => exact absurd hO id
      | succ n => exact hO
    have e := wok_eq z
    have q' : Q (.bl (wokP z)) H := by rw [e]; exact q
    unfold wokP at q'
    refine ⟨_, rfl, z, rfl, Nat.le_trans hl (by decide), _, _, rfl, rfl, _, rfl, ite2 (fun h1 => ?_) (fun c1 => ?_)⟩
    case refine_2 =>
      have e1 : decide (1 ≤ z.length) = false := decide_eq_false fun h => c1 (decide_eq_true (by omega))
      rw [e1] at q'
      exact ⟨_, rfl, iteT q'⟩
    have h1 : 1 ≤ z.length := by have := of_decide_eq_true h1; omega
    rw [decide_eq_true h1] at q'
    refine ⟨_, _, rfl, rfl, _, rfl, ?_⟩
    by_cases h2 : z.length ≤ 12
    case neg =>
      rw [decide_eq_false h2] at q'
      rw [show decide ((z.length : Int) ≤ 12) = false from decide_eq_false (by omega)]
      exact iteT q'
    rw [decide_eq_true h2] at q'
    rw [show decide ((z.length : Int) ≤ 12) = true from decide_eq_true (by omega)]
    refine iteF ⟨_, rfl, rfl, z, rfl, rfl, trivial, _, rfl, ?_⟩
    cases h3 : Txt.isascii z with
    | false => rw [h3] at q'; exact iteF q'
    | true =>
    rw [h3] at q'
    refine iteT ⟨_, rfl, ⟨z, rfl⟩, z, rfl, rfl, trivial, _, rfl, ?_⟩
    cases h4 : Txt.isalnum z with
    | false => rw [h4] at q'; exact iteF q'
    | true =>
    rw [h4] at q'
    obtain ⟨c, r, hc⟩ : ∃ c r, z.cps.toList = c :: r := by
      cases e2 : z.cps.toList with
      | nil =>
        have h5 : z.cps.toList.length = 0 := by rw [e2]; rfl
        rw [Array.length_toList] at h5
        exact absurd (show z.length = 0 from h5) (by omega)
      | cons c r => exact ⟨c, r, rfl⟩
    rw [hc] at q'
    refine iteT ⟨_, rfl, z, 0, c, rfl, rfl, Nat.le_trans hl (by decide), by rw [hc]; exact atI_nat (xs := c :: r) (j := 0) rfl, ⟨_, rfl⟩, _, rfl, rfl, trivial, q'⟩
/-- is it a tuple with so many items -/
def rowB (n : Nat) : PV → Bool
  | .tup ts => decide (ts.length = n)
  | _ => false
def spRow : Sp := fun vs H Q _ => ∃ v t, ∃ n : Nat, vs = [v, .int n] ∧ Is H v t ∧ Q (.bl (rowB n t)) H
theorem ok_is_row (T : Txt K mg)  : FnOk P w K mg base CX0 1 T.a_is_row T.d_is_row ["value", "many"] spRow := by
  refine T.F_is_row.ok sc_is_row (fun vs H Q E h => ?_) (fun cdv A outer s H vs Q E hr h => ?_)
  · obtain ⟨v, t, n, rfl, _⟩ := h; rfl
  · obtain ⟨v, t, n, rfl, hI, q⟩ := h
    refine ⟨_, (pss_one (ps_ret (pe_and (pe_callB call_isi (by rfl) T.z_isinstance (by decide +kernel) (pa_cons (pv 0) (pa_cons (pe_bltn rfl T.z_tuple (by decide +kernel) (show RelV (V.ty "tuple") (Value.type "tuple") from rfl)) pa_nil))) (pe_one (pe_cmpR op_eq (pe_callB call_len_seq (by rfl) T.z_len (by decide +kernel) (pa_cons (pv 0) pa_nil)) (pv 1) (nomark _)))))), ?_⟩
    obtain ⟨u, ty, kt⟩ := hI.ty (K := K)
    refine ⟨_, rfl, _, _, u, _, _, rfl, .ty _, ty, kit_tup kt, _, rfl, ?_⟩
    cases t with
    | oth _ => exact iteF q
    | str _ => exact iteF q
    | tup ts =>
    obtain ⟨a, us, rfl, ea, hL⟩ := hI.tup_inv
    refine iteT ⟨_, rfl, a, us, rfl, .inr ea.sq, _, rfl, rfl, ?_⟩
    rw [show decide (V.int (us.length : Int) = V.int n) = decide (ts.length = n) by rw [hL.len]; simp; omega]
    exact q
def spInt : Sp := fun vs H Q _ => ∃ v t, vs = [v] ∧ Is H v t ∧ Q (.bl (isIn t && !isBl t)) H
theorem ok_is_integer (T : Txt K mg)  : FnOk P w K mg base CX0 1 T.a_is_integer T.d_is_integer ["value"] spInt := by
  refine T.F_is_integer.ok sc_is_integer (fun vs H Q E h => ?_) (fun cdv A outer s H vs Q E hr h => ?_)
  · obtain ⟨v, t, rfl, _⟩ := h; rfl
  · obtain ⟨v, t, rfl, hI, q⟩ := h
    refine ⟨_, (pss_one (ps_ret (pe_and (pe_callB call_isi (by rfl) T.z_isinstance (by decide +kernel) (pa_cons (pv 0) (pa_cons (pe_bltn rfl T.z_int (by decide +kernel) (show RelV (V.ty "int") (Value.type "int") from rfl)) pa_nil))) (pe_one (pe_not (pe_callB call_isi (by rfl) T.z_isinstance (by decide +kernel) (pa_cons (pv 0) (pa_cons (pe_bltn rfl T.z_bool (by decide +kernel) (show RelV (V.ty "bool") (Value.type "bool") from rfl)) pa_nil)))))))), ?_⟩
    obtain ⟨u, ty, kt⟩ := hI.ty (K := K)
    refine ⟨_, rfl, _, _, u, _, _, rfl, .ty _, ty, kit_int kt, _, rfl, ?_⟩
    cases hi : isIn t with
    | false => rw [hi] at q; exact iteF q
    | true =>
    rw [hi] at q
    exact iteT ⟨_, rfl, _, _, u, _, _, rfl, .ty _, ty, kit_bl kt, _, rfl, q⟩
theorem mrow_not {t : PV} (h : rowB 2 t = false) : mrowB t = false := by
  unfold mrowB
  split
  · simp [rowB] at h
  · rfl
theorem two_inv {t : PV} (h : rowB 2 t = true) : ∃ a b, t = .tup [a, b] := by
  cases t with
  | str _ => cases h
  | oth _ => cases h
  | tup l =>
    match l, h with
    | [a, b], _ => exact ⟨a, b, rfl⟩
    | [], h => simp [rowB] at h
    | [_], h => simp [rowB] at h
    | _ :: _ :: _ :: _, h => simp [rowB] at h
theorem Is.two {H : Hp} {v : V} {a b : PV} (h : Is H v (.tup [a, b])) : ∃ p x y, v = .ref p ∧ TupF H p [x, y] ∧ Is H x a ∧ Is H y b := by
  obtain ⟨p, vs, rfl, e, hL⟩ := h.tup_inv
  cases hL with
  | cons h1 r => cases r with
    | cons h2 r => cases r; exact ⟨p, _, _, rfl, e, h1, h2⟩
def spMaker : Sp := fun vs H Q _ => ∃ v t n, vs = [v] ∧ Is H v t ∧ Ok (n + 1) t ∧ Q (.bl (mrowB t)) H
theorem ok_is_maker (T : Txt K mg) (G_is_row : FnOk P w K mg base CX0 1 T.a_is_row T.d_is_row ["value", "many"] spRow) (G_is_word : FnOk P w K mg base CX0 1 T.a_is_word T.d_is_word ["value"] spWord) (G_is_integer : FnOk P w K mg base CX0 1 T.a_is_integer T.d_is_integer ["value"] spInt) : FnOk P w K mg base CX0 2 T.a_is_maker T.d_is_maker ["value"] spMaker := by
  refine T.F_is_maker.ok sc_is_maker (fun vs H Q E h => ?_) (fun cdv A outer s H vs Q E hr h => ?_)
  · obtain ⟨v, t, n, rfl, _⟩ := h; rfl
  · obtain ⟨v, t, n, rfl, hI, hO, q⟩ := h
    have hr_is_row := hr
    have hr_is_word := hr
    have hr_is_integer := hr
    refine ⟨_, (pss_cons (ps_if (PW.pt (pw_or (pt_not (pt_val (pe_call G_is_row hr_is_row rfl T.m_is_row T.F_is_row.kp T.b_is_row .nil pass0 (pa_cons (pv 0) (pa_cons pe_int pa_nil))))) (pw_or1 (pt_not (pt_val (pe_call G_is_word hr_is_word rfl T.m_is_word T.F_is_word.kp T.b_is_word .nil pass0 (pa_cons (pe_ix ix_tup (pv 0) pe_int (fun _ _ => rfl)) pa_nil))))))) (pss_one (ps_ret pe_bl)) pss_nil)
    (pss_one (ps_ret (pe_and (pe_call G_is_integer hr_is_integer rfl T.m_is_integer T.F_is_integer.kp T.b_is_integer .nil pass0 (pa_cons (pe_ix ix_tup (pv 0) pe_int (fun _ _ => rfl)) pa_nil)) (pe_one (pe_chain op_le op_le pe_int (pe_ix ix_tup (pv 0) pe_int (fun _ _ => rfl)) (pe_glob (by rfl) T.g_MOST_MAKER_PARTS (show RelV (V.int 2) (.int 2 T.t_MOST_MAKER_PARTS) from ⟨_, rfl⟩)) (by with_unfolding_all rfl))))))), ?_⟩
    refine ⟨_, rfl, v, t, 2, rfl, hI, _, rfl, ?_⟩
    cases hb : rowB 2 t with
    | false =>
      rw [mrow_not hb] at q
      exact iteT (iteT q)
    | true =>
    obtain ⟨a, b, rfl⟩ := two_inv hb
    obtain ⟨p, x, y, rfl, ep, ia, ib⟩ := hI.two
    have oa : Ok n a := hO.mem (List.mem_cons_self ..)
    refine iteF ⟨_, rfl, p, _, _, _, rfl, rfl, ep.sq, atI_nat (j := 0) rfl, x, a, n, rfl, ia, oa, _, rfl, ?_⟩
    cases hw : wordB a with
    | false =>
      have e : mrowB (.tup [a, b]) = false := by
        cases a with
        | str w =>
          cases b with
          | oth o => cases o with
            | int i => simp only [mrowB, show wok w = false from hw, Bool.false_and]
            | _ => rfl
          | _ => rfl
        | _ => rfl
      rw [e] at q
      exact iteT q
    | true =>
    refine iteF ⟨_, rfl, p, _, _, _, rfl, rfl, ep.sq, atI_nat (j := 1) rfl, y, b, rfl, ib, _, rfl, ?_⟩
    obtain ⟨ea, hw'⟩ := word_inv hw
    rw [ea] at q
    cases b with
    | str _ => exact iteF q
    | tup _ => exact iteF q
    | oth o =>
      cases o with
      | non => exact iteF q
      | bl _ => exact iteF q
      | lst => exact iteF q
      | dict => exact iteF q
      | int i =>
        cases ib
        simp only [mrowB, hw', Bool.true_and] at q
        refine iteT ⟨_, rfl, p, _, _, _, rfl, rfl, ep.sq, atI_nat (j := 1) rfl, _, _, rfl, rfl, _, rfl, ?_⟩
        by_cases h0 : 0 ≤ i
        · rw [decide_eq_true h0] at q ⊢
          exact iteT ⟨i, 2, rfl, rfl, q⟩
        · rw [decide_eq_false h0] at q ⊢
          exact iteF q
theorem take_all {α : Type} {p : α → Bool} {l : List α} {i : Nat} {x : α} (e : l[i]? = some x) (h : (l.take i).all p = true) (hx : p x = true) : (l.take (i + 1)).all p = true := by
  obtain ⟨hi, rfl⟩ := List.getElem?_eq_some_iff.mp e
  rw [List.take_succ_eq_append_getElem hi, List.all_append, h]
  simpa using hx
theorem not_all {α : Type} {p : α → Bool} {l : List α} {i : Nat} {x : α} (e : l[i]? = some x) (hx : p x = false) : l.all p = false :=
  Bool.eq_false_iff.mpr fun h => by
    have := List.all_eq_true.mp h x (List.mem_of_getElem? e)
    rw [hx] at this; cases this
theorem inV_int (k : Int) : ∀ ns : List Int, inV (.int k) (ns.map V.int) = ns.any (fun n => n == k)
  | [] => rfl
  | n :: r => by
    have ih := inV_int k r
    show ((n == k) || inV (.int k) (r.map V.int)) = _
    rw [ih]
    rfl
theorem flat_int : ∀ ns : List Int, (ns.map V.int).all flatV = true
  | [] => rfl
  | _ :: r => flat_int r
theorem inV_bl (k : Bool) : ∀ ns : List Bool, inV (.bl k) (ns.map V.bl) = ns.any (fun n => n == k)
  | [] => rfl
  | n :: r => by
    have ih := inV_bl k r
    show ((n == k) || inV (.bl k) (r.map V.bl)) = _
    rw [ih]
    rfl
theorem flat_bl : ∀ ns : List Bool, (ns.map V.bl).all flatV = true
  | [] => rfl
  | _ :: r => flat_bl r
theorem inV_str (z : Str) : ∀ f : List Str, inV (.str z) (f.map V.str) = decide (z ∈ f)
  | [] => rfl
  | x :: r => by
    have ih := inV_str z r
    show ((x == z) || inV (.str z) (r.map V.str)) = _
    rw [ih]
    by_cases h : x = z
    · subst h; simp
    · have h2 : ¬ z = x := fun e => h e.symm
      simp [h, h2]
theorem flat_str : ∀ f : List Str, (f.map V.str).all flatV = true
  | [] => rfl
  | _ :: r => flat_str r
def spMakers : Sp := fun vs H Q _ => ∃ v t n, vs = [v] ∧ Is H v t ∧ Ok (n + 2) t ∧ ∀ H', Same H H' → Q (.bl (mkB t)) H'
theorem ok_are_makers (T : Txt K mg) (G_is_maker : FnOk P w K mg base CX0 2 T.a_is_maker T.d_is_maker ["value"] spMaker) : FnOk P w K mg base CX0 3 T.a_are_makers T.d_are_makers ["value"] spMakers := by
  refine T.F_are_makers.ok sc_are_makers (fun vs H Q E h => ?_) (fun cdv A outer s H vs Q E hr h => ?_)
  · obtain ⟨v, t, n, rfl, _⟩ := h; rfl
  · obtain ⟨v, t, n, rfl, hI, hO, q⟩ := h
    have hr_is_maker := hr
    refine ⟨_, (pss_cons (ps_if (PW.pt (pw_or (pt_not (pt_val (pe_callB call_isi (by rfl) T.z_isinstance (by decide +kernel) (pa_cons (pv 0) (pa_cons (pe_bltn rfl T.z_tuple (by decide +kernel) (show RelV (V.ty "tuple") (Value.type "tuple") from rfl)) pa_nil))))) (pw_or1 (pt_not (pt_chain op_le op_le pe_int (pe_callB call_len_seq (by rfl) T.z_len (by decide +kernel) (pa_cons (pv 0) pa_nil)) (pe_glob (by rfl) T.g_MOST_MAKERS (show RelV (V.int 5) (.int 5 T.t_MOST_MAKERS) from ⟨_, rfl⟩)) (by with_unfolding_all rfl)))))) (pss_one (ps_ret pe_bl)) pss_nil)
    (pss_cons (ps_for PassesOwn.never rfl (pi_tup (pv 0)) (pg_name (i := 1) sc_are_makers.nd rfl (Or.inl rfl))
    (pss_one (ps_if (pt_not (pt_val (pe_call G_is_maker hr_is_maker rfl T.m_is_maker T.F_is_maker.kp T.b_is_maker .nil pass0 (pa_cons (pv 1) pa_nil)))) (pss_one (ps_ret pe_bl)) pss_nil)))
    (pss_one (ps_ret (pe_cmpR op_in_seq pe_int (pe_lc (own := [("_", 2), ("parts", 3)]) (g := (gTup K 2 (gCons (gName 2) (gCons (gName 3) gNil)))) (tt := tYes) rfl sc_are_makers.nd (pi_tup (pv 0)) (blkOk_by (own := [("_", 2), ("parts", 3)]) (N := ["value", "maker", "_", "parts"]) (sc := defScope s_are_makers) (by decide +kernel)) (fun _ _ _ _ _ => (pg_tup rfl (pgs_cons (pg_name (i := 2) sc_are_makers.nd rfl (Or.inl rfl)) (pgs_cons (pg_name (i := 3) sc_are_makers.nd rfl (Or.inl rfl)) pgs_nil)))) (fun _ _ _ _ _ => pts_nil) (fun _ _ _ _ _ => (pv 3))) (by rfl)))))), ?_⟩
    obtain ⟨u, ty, kt⟩ := hI.ty (K := K)
    have q0 := q H (.refl H)
    refine ⟨_, rfl, _, _, u, _, _, rfl, .ty _, ty, kit_tup kt, _, rfl, ?_⟩
    cases t with
    | oth _ => exact iteT (iteT q0)
    | str _ => exact iteT (iteT q0)
    | tup ts =>
    obtain ⟨p, us, rfl, ep, hL⟩ := hI.tup_inv
    have hlen := hL.len
    rw [show mkB (.tup ts) = (decide (1 ≤ ts.length) && decide (ts.length ≤ 5) && ts.all mrowB && ts.any fun t => mnum t == 0) from rfl] at q0
    replace q : ∀ H', Same H H' → Q (.bl (decide (1 ≤ ts.length) && decide (ts.length ≤ 5) && ts.all mrowB && ts.any fun t => mnum t == 0)) H' := q
    refine iteF ⟨_, rfl, p, us, rfl, .inr ep.sq, _, _, rfl, rfl, _, rfl, ite2 (fun h1 => ?_) (fun c1 => ?_)⟩
    case refine_2 =>
      have e1 : decide (1 ≤ ts.length) = false := decide_eq_false fun h => c1 (decide_eq_true (by omega))
      rw [e1] at q0
      exact ⟨_, rfl, iteT q0⟩
    have h1 : 1 ≤ ts.length := by have := of_decide_eq_true h1; omega
    refine ⟨_, _, rfl, rfl, _, rfl, ?_⟩
    by_cases h5 : ts.length ≤ 5
    case neg =>
      rw [decide_eq_false h5, Bool.and_false] at q0
      rw [show decide ((us.length : Int) ≤ 5) = false from decide_eq_false (by omega)]
      exact iteT q0
    rw [decide_eq_true h1, decide_eq_true h5] at q q0
    rw [show decide ((us.length : Int) ≤ 5) = true from decide_eq_true (by omega)]
    refine iteF ⟨_, rfl, p, rfl, ⟨_, ep.sq⟩, ?_⟩
    refine for_tup (K := K) (a := p) (xs := us) (fun i σ H2 => ∃ y, σ = [some (.ref p), y, none, none] ∧ H2 = H ∧ (ts.take i).all mrowB = true) ?_ ?_ ?_ ?_
    · exact ⟨none, rfl, rfl, rfl⟩
    · rintro i σ H2 _ ⟨_, _, rfl, _⟩
      exact ep.sq
    · rintro i x σ H2 hx ⟨y, rfl, rfl, hall⟩
      obtain ⟨t', et, it⟩ := hL.get hx
      refine ⟨_, rfl, x, t', n, rfl, it, hO.mem (List.mem_of_getElem? et), _, rfl, ?_⟩
      cases hm : mrowB t' with
      | false =>
        rw [not_all et hm] at q0
        exact iteT q0
      | true => exact iteF ⟨_, rfl, rfl, take_all et hall hm⟩
    · rintro σ H2 ⟨y, rfl, rfl, hall⟩
      rw [hlen, List.take_length] at hall
      rw [hall] at q
      refine ⟨_, rfl, p, rfl, ⟨_, ep.sq⟩, fun D hD => ?_⟩
      refine lc_tup (K := K) (a := p) (xs := us) (fun i H3 => ∃ ns : List Int, Same H2 H3 ∧ H3 D = some (.lst (ns.map V.int)) ∧ ns = (ts.take i).map mnum) ?_ ?_ ?_ ?_
      · exact ⟨[], same_upd hD _, upd_same, rfl⟩
      · exact fun i H3 _ ⟨_, sm, _⟩ => (ep.same sm).sq
      · rintro i x H3 hx ⟨ns, sm, eD, hns⟩
        obtain ⟨t', et, it⟩ := hL.get hx
        have hm : mrowB t' = true := List.all_eq_true.mp hall t' (List.mem_of_getElem? et)
        obtain ⟨et', _⟩ := mrow_inv hm
        rw [et', mkPV] at it
        obtain ⟨a, x1, x2, e0, ea, i1, i2⟩ := (it.same sm).two
        subst e0
        cases i2
        have hl := congrArg List.length hns
        rw [List.length_map, List.length_take] at hl
        refine ⟨a, _, rfl, ea.sq, rfl, _, _, rfl, _, _, rfl, rfl, rfl, yes_if ⟨_, rfl, _, eD, small1000 (by rw [List.length_map]; omega), ns ++ [mnum t'], Kx.Same.own sm hD _, by rw [upd_same, List.map_append]; rfl, ?_⟩⟩
        obtain ⟨hi, rfl⟩ := List.getElem?_eq_some_iff.mp et
        rw [List.take_succ_eq_append_getElem hi, List.map_append, hns]; rfl
      · rintro H3 ⟨ns, sm, eD, hns⟩
        rw [hlen, List.take_length] at hns
        refine ⟨D, _, rfl, .inl (SqL.of eD), rfl, flat_int ns, ?_⟩
        rw [inV_int, hns, List.any_map]
        exact q H3 sm
def spFams : Sp := fun vs H Q _ => ∃ v t n, vs = [v] ∧ Is H v t ∧ Ok (n + 1) t ∧ Q (.bl (famB t)) H
theorem ok_are_families (T : Txt K mg) (G_is_word : FnOk P w K mg base CX0 1 T.a_is_word T.d_is_word ["value"] spWord) : FnOk P w K mg base CX0 2 T.a_are_families T.d_are_families ["value"] spFams := by
  refine T.F_are_families.ok sc_are_families (fun vs H Q E h => ?_) (fun cdv A outer s H vs Q E hr h => ?_)
  · obtain ⟨v, t, n, rfl, _⟩ := h; rfl
  · obtain ⟨v, t, n, rfl, hI, hO, q⟩ := h
    have hr_is_word := hr
    refine ⟨_, (pss_cons (ps_if (PW.pt (pw_or (pt_not (pt_val (pe_callB call_isi (by rfl) T.z_isinstance (by decide +kernel) (pa_cons (pv 0) (pa_cons (pe_bltn rfl T.z_tuple (by decide +kernel) (show RelV (V.ty "tuple") (Value.type "tuple") from rfl)) pa_nil))))) (pw_or1 (pt_not (pt_chain op_le op_le pe_int (pe_callB call_len_seq (by rfl) T.z_len (by decide +kernel) (pa_cons (pv 0) pa_nil)) (pe_glob (by rfl) T.g_MOST_FAMILIES (show RelV (V.int 4) (.int 4 T.t_MOST_FAMILIES) from ⟨_, rfl⟩)) (by with_unfolding_all rfl)))))) (pss_one (ps_ret pe_bl)) pss_nil)
    (pss_cons (ps_for PassesOwn.never rfl (pi_tup (pv 0)) (pg_name (i := 1) sc_are_families.nd rfl (Or.inl rfl))
    (pss_one (ps_if (pt_not (pt_val (pe_call G_is_word hr_is_word rfl T.m_is_word T.F_is_word.kp T.b_is_word .nil pass0 (pa_cons (pv 1) pa_nil)))) (pss_one (ps_ret pe_bl)) pss_nil)))
    (pss_one (ps_ret pe_bl)))), ?_⟩
    obtain ⟨u, ty, kt⟩ := hI.ty (K := K)
    refine ⟨_, rfl, _, _, u, _, _, rfl, .ty _, ty, kit_tup kt, _, rfl, ?_⟩
    cases t with
    | oth _ => exact iteT (iteT q)
    | str _ => exact iteT (iteT q)
    | tup ts =>
    obtain ⟨p, us, rfl, ep, hL⟩ := hI.tup_inv
    have hlen := hL.len
    rw [show famB (.tup ts) = (decide (1 ≤ ts.length) && decide (ts.length ≤ 4) && ts.all wordB) from rfl] at q
    refine iteF ⟨_, rfl, p, us, rfl, .inr ep.sq, _, _, rfl, rfl, _, rfl, ite2 (fun h1 => ?_) (fun c1 => ?_)⟩
    case refine_2 =>
      have e1 : decide (1 ≤ ts.length) = false := decide_eq_false fun h => c1 (decide_eq_true (by omega))
      rw [e1] at q
      exact ⟨_, rfl, iteT q⟩
    have h1 : 1 ≤ ts.length := by have := of_decide_eq_true h1; omega
    refine ⟨_, _, rfl, rfl, _, rfl, ?_⟩
    by_cases h5 : ts.length ≤ 4
    case neg =>
      rw [decide_eq_false h5, Bool.and_false] at q
      rw [show decide ((us.length : Int) ≤ 4) = false from decide_eq_false (by omega)]
      exact iteT q
    rw [decide_eq_true h1, decide_eq_true h5] at q
    rw [show decide ((us.length : Int) ≤ 4) = true from decide_eq_true (by omega)]
    refine iteF ⟨_, rfl, p, rfl, ⟨_, ep.sq⟩, ?_⟩
    refine for_tup (K := K) (a := p) (xs := us) (fun i σ H2 => ∃ y, σ = [some (.ref p), y] ∧ H2 = H ∧ (ts.take i).all wordB = true) ?_ ?_ ?_ ?_
    · exact ⟨none, rfl, rfl, rfl⟩
    · rintro i σ H2 _ ⟨_, _, rfl, _⟩
      exact ep.sq
    · rintro i x σ H2 hx ⟨y, rfl, rfl, hall⟩
      obtain ⟨t', et, it⟩ := hL.get hx
      refine ⟨_, rfl, x, t', n, rfl, it, hO.mem (List.mem_of_getElem? et), _, rfl, ?_⟩
      cases hm : wordB t' with
      | false =>
        rw [not_all et hm] at q
        exact iteT q
      | true => exact iteF ⟨_, rfl, rfl, take_all et hall hm⟩
    · rintro σ H2 ⟨y, rfl, rfl, hall⟩
      rw [hlen, List.take_length] at hall
      rw [hall] at q
      exact q
end
end Kx
namespace Kx
open PySem PySem.Spec PyProof.Rows L2
section
variable {P : Program} {w : World} {K : PySem.W.Frag} {mg : Str → Option Value} {base : Heap}
set_option pp.maxSteps 900
/-! ### the law's own: words, rows, makers -/
theorem len0 {α : Type} (l : List α) : decide (V.int (l.length : Int) = V.int 0) = (l.length == 0) := by
  rw [dec_int, Bool.eq_iff_iff]
  simp only [beq_iff_eq]
  omega
theorem pos0 {α : Type} (l : List α) : decide ((0 : Int) < (l.length : Int)) = !(l.length == 0) := by
  rw [Bool.eq_iff_iff]
  simp only [decide_eq_true_eq, Bool.not_eq_true', beq_eq_false_iff_ne]
  omega
def rowsB (l m : Nat) : PV → Bool
  | .tup ts => decide (l ≤ ts.length) && decide (ts.length ≤ m)
  | _ => false
def spLRow : Sp := fun vs H Q _ => ∃ v t, ∃ l m : Nat, vs = [v, .int l, .int m] ∧ Is H v t ∧ Q (.bl (rowsB l m t)) H
theorem ok_law_row (T : Txt K mg)  : FnOk P w K mg base CX0 1 T.a_law_row T.d_law_row ["value", "least", "most"] spLRow := by
  refine T.F_law_row.ok sc_law_row (fun vs H Q E h => ?_) (fun cdv A outer s H vs Q E hr h => ?_)
  · obtain ⟨v, t, l, m, rfl, _⟩ := h; rfl
  · obtain ⟨v, t, l, m, rfl, hI, q⟩ := h
    refine ⟨_, (pss_one (ps_ret (pe_and (pe_callB call_isi (by rfl) T.z_isinstance (by decide +kernel) (pa_cons (pv 0) (pa_cons (pe_bltn rfl T.z_tuple (by decide +kernel) (show RelV (V.ty "tuple") (Value.type "tuple") from rfl)) pa_nil))) (pe_one (pe_chain op_le op_le (pv 1) (pe_callB call_len_seq (by rfl) T.z_len (by decide +kernel) (pa_cons (pv 0) pa_nil)) (pv 2) (by with_unfolding_all rfl)))))), ?_⟩
    obtain ⟨u, ty, kt⟩ := hI.ty (K := K)
    refine ⟨_, rfl, _, _, u, _, _, rfl, .ty _, ty, kit_tup kt, _, rfl, ?_⟩
    cases t with
    | oth _ => exact iteF q
    | str _ => exact iteF q
    | tup ts =>
    obtain ⟨p, us, rfl, ep, hL⟩ := hI.tup_inv
    have hlen := hL.len
    rw [show rowsB l m (.tup ts) = (decide (l ≤ ts.length) && decide (ts.length ≤ m)) from rfl] at q
    refine iteT ⟨_, rfl, _, rfl, p, us, rfl, .inr ep.sq, _, _, rfl, rfl, _, rfl, ?_⟩
    by_cases h1 : l ≤ ts.length
    · rw [decide_eq_true h1] at q
      rw [show decide ((l : Int) ≤ (us.length : Int)) = true from decide_eq_true (by omega)]
      refine iteT ⟨_, rfl, _, _, rfl, rfl, ?_⟩
      show Q (.bl (decide ((us.length : Int) ≤ (m : Int)))) H
      rw [show decide ((us.length : Int) ≤ (m : Int)) = decide (ts.length ≤ m) from decide_eq_decide.mpr (by omega)]
      exact q
    · rw [decide_eq_false h1] at q
      rw [show decide ((l : Int) ≤ (us.length : Int)) = false from decide_eq_false (by omega)]
      exact iteF q
def spLWord : Sp := fun vs H Q _ => ∃ v t n, vs = [v] ∧ Is H v t ∧ Ok n t ∧ ∀ H', Same H H' → Q (.bl (wordB t)) H'
def goodS (c : Nat) : Bool := decide (c ∈ letters.cps.toList) || decide (c ∈ digits.cps.toList)
theorem ok_law_is_word (T : Txt K mg)  : FnOk P w K mg base CX0 1 T.a_law_is_word T.d_law_is_word ["value"] spLWord := by
  refine T.F_law_is_word.ok sc_law_is_word (fun vs H Q E h => ?_) (fun cdv A outer s H vs Q E hr h => ?_)
  · obtain ⟨v, t, n, rfl, _⟩ := h; rfl
  · obtain ⟨v, t, n, rfl, hI, hO, q⟩ := h
    refine ⟨_, (pss_cons (ps_if (PW.pt (pw_or (pt_not (pt_val (pe_callB call_isi (by rfl) T.z_isinstance (by decide +kernel) (pa_cons (pv 0) (pa_cons (pe_bltn rfl T.z_str (by decide +kernel) (show RelV (V.ty "str") (Value.type "str") from rfl)) pa_nil))))) (pw_or (pt_cmpR op_lt (pe_callB call_len_str (by rfl) T.z_len (by decide +kernel) (pa_cons (pv 0) pa_nil)) pe_int (nomark _)) (pw_or1 (pt_cmpR op_gt (pe_callB call_len_str (by rfl) T.z_len (by decide +kernel) (pa_cons (pv 0) pa_nil)) pe_int (nomark _)))))) (pss_one (ps_ret pe_bl)) pss_nil)
    (pss_cons (ps_set (i := 1) sc_law_is_word.nd rfl (Or.inr rfl) pe_str)
    (pss_cons (ps_setLc (i := 2) (own := [("char", 3)]) (g := (gName 3)) rfl sc_law_is_word.nd rfl rfl (sw_true rfl rfl rfl (by decide +kernel)) (pi_str (pe_slice sl_str (pv 0) (po_some pe_int) po_none)) (blkOk_by (own := [("char", 3)]) (N := ["value", "letters", "rest", "char"]) (sc := defScope s_law_is_word) (by decide +kernel)) (fun _ _ _ _ _ => (pg_name (i := 3) sc_law_is_word.nd rfl (Or.inl rfl))) (fun _ _ _ _ _ => pts_one (PW.pt (pw_and (pt_cmpR op_notIn_sign (pv 3) (pv 1) (by rfl)) (pw_and1 (pt_cmpR op_notIn_sign (pv 3) pe_str (by rfl)))))) (fun _ _ _ _ _ => (pv 3)))
    (pss_one (ps_ret (pe_and (pe_cmpR op_in_sign (pe_ix ix_str (pv 0) pe_int (fun _ _ => rfl)) (pv 1) (by rfl)) (pe_one (pe_cmpR op_eq (pe_callB call_len_seq (by rfl) T.z_len (by decide +kernel) (pa_cons (pv 2) pa_nil)) pe_int (nomark _))))))))), ?_⟩
    obtain ⟨u, ty, kt⟩ := hI.ty (K := K)
    have q0 := q H (.refl H)
    refine ⟨_, rfl, _, _, u, _, _, rfl, .ty _, ty, kit_str kt, _, rfl, ?_⟩
    cases t with
    | oth _ => exact iteT (iteT q0)
    | tup _ => exact iteT (iteT q0)
    | str z =>
    refine iteF ?_
    cases hI.str_inv
    have hl : z.length ≤ 100 := by
      cases n with
      | zero => exact absurd hO id
      | succ n => exact hO
    replace q : ∀ H', Same H H' → Q (.bl (wok z)) H' := q
    replace q0 : Q (.bl (wok z)) H := q0
    unfold wok at q q0
    refine ⟨_, rfl, z, rfl, Nat.le_trans hl (by decide), _, _, rfl, rfl, _, rfl, ite2 (fun c1 => ?_) (fun c1 => ?_)⟩
    · have e1 : decide (1 ≤ z.length) = false := decide_eq_false fun h => by
        have := of_decide_eq_true c1
        omega
      rw [e1] at q0
      exact iteT q0
    have h1 : 1 ≤ z.length := Nat.not_lt.mp fun h => c1 (decide_eq_true (by omega))
    refine ⟨_, rfl, z, rfl, Nat.le_trans hl (by decide), _, _, rfl, rfl, _, rfl, ite2 (fun c2 => ?_) (fun c2 => ?_)⟩
    · have e1 : decide (z.length ≤ 12) = false := decide_eq_false fun h => by
        have := of_decide_eq_true c2
        omega
      rw [e1, Bool.and_false] at q0
      exact q0
    have h2 : z.length ≤ 12 := Nat.not_lt.mp fun h => c2 (decide_eq_true (by omega))
    rw [decide_eq_true h1, decide_eq_true h2] at q
    obtain ⟨c, r, hc⟩ : ∃ c r, z.cps.toList = c :: r := by
      cases e2 : z.cps.toList with
      | nil =>
        have h5 : z.cps.toList.length = 0 := by rw [e2]; rfl
        rw [Array.length_toList] at h5
        exact absurd (show z.length = 0 from h5) (by omega)
      | cons c r => exact ⟨c, r, rfl⟩
    rw [hc] at q
    replace q : ∀ H', Same H H' → Q (.bl (true && true && (decide (c ∈ letters.cps.toList) && r.all goodS))) H' := q
    have hzl : z.length = r.length + 1 := by
      have : z.cps.toList.length = r.length + 1 := by rw [hc]; rfl
      rwa [Array.length_toList] at this
    have hcut : cutS z (some 1) none = ⟨r.toArray⟩ := by
      unfold cutS
      rw [HT.sIx_none, show (1 : Int) = ((1 : Nat) : Int) from rfl, HT.sIx_nat, hc, Nat.min_eq_left h1, hzl]
      simp
    refine ⟨_, rfl, _, rfl, z, rfl, Nat.le_trans hl (by decide), _, rfl, fun D hD => ?_⟩
    rw [hcut]
    refine lc_str (z := ⟨r.toArray⟩) (fun i H2 => ∃ acc, Same H H2 ∧ H2 D = some (.lst acc) ∧ acc.length ≤ i ∧ (acc.length == 0) = (r.take i).all goodS) ?_ ?_ ?_
    · exact ⟨[], same_upd hD _, upd_same, Nat.le_refl _, rfl⟩
    · rintro i d H2 hd ⟨acc, sm, eD, hle, hall⟩
      have hd2 : r[i]? = some d := by simpa using hd
      obtain ⟨hi, e⟩ := List.getElem?_eq_some_iff.mp hd2
      have tk : (r.take (i + 1)).all goodS = ((r.take i).all goodS && goodS d) := by
        rw [List.take_succ_eq_append_getElem hi, List.all_append, e]; simp
      refine ⟨rfl, _, rfl, _, rfl, d, letters, rfl, rfl, _, rfl, ?_⟩
      by_cases m1 : d ∈ letters.cps.toList
      · rw [decide_eq_true m1]
        have g : goodS d = true := by simp only [goodS, decide_eq_true m1, Bool.true_or]
        exact iteF ⟨acc, sm, eD, by omega, by rw [tk, g, Bool.and_true]; exact hall⟩
      · rw [decide_eq_false m1]
        refine iteT ⟨_, rfl, d, digits, rfl, rfl, _, rfl, ?_⟩
        by_cases m2 : d ∈ digits.cps.toList
        · rw [decide_eq_true m2]
          have g : goodS d = true := by simp only [goodS, decide_eq_true m2, Bool.or_true]
          exact iteF ⟨acc, sm, eD, by omega, by rw [tk, g, Bool.and_true]; exact hall⟩
        · rw [decide_eq_false m2]
          have g : goodS d = false := by simp only [goodS, decide_eq_false m1, decide_eq_false m2, Bool.or_false]
          refine iteT ⟨_, rfl, acc, eD, small1000 (by omega), acc ++ [.str ⟨#[d]⟩], Kx.Same.own sm hD _, upd_same, by rw [List.length_append, List.length_singleton]; omega, ?_⟩
          rw [tk, g, Bool.and_false, List.length_append]
          simp
    · rintro H2 ⟨acc, sm, eD, hle, hall⟩
      have hall2 : (acc.length == 0) = r.all goodS := by
        have : (⟨r.toArray⟩ : Str).cps.size = r.length := by simp
        rw [this, List.take_length] at hall
        exact hall
      refine ⟨_, rfl, z, 0, c, rfl, rfl, Nat.le_trans hl (by decide), by rw [hc]; exact atI_nat (xs := c :: r) (j := 0) rfl, _, rfl, c, letters, rfl, rfl, _, rfl, ?_⟩
      by_cases m1 : c ∈ letters.cps.toList
      case neg =>
        rw [decide_eq_false m1] at q ⊢
        exact iteF (q H2 sm)
      rw [decide_eq_true m1] at q ⊢
      refine iteT ⟨_, rfl, D, acc, rfl, .inl (SqL.of eD), rfl, ?_⟩
      rw [len0, hall2]
      exact q H2 sm
def spLMakers : Sp := fun vs H Q _ => ∃ v t n, vs = [v] ∧ Is H v t ∧ Ok (n + 2) t ∧ ∀ H', Same H H' → Q (.bl (mkB t)) H'
theorem ok_law_is_makers (T : Txt K mg) (G_law_row : FnOk P w K mg base CX0 1 T.a_law_row T.d_law_row ["value", "least", "most"] spLRow) (G_law_is_word : FnOk P w K mg base CX0 1 T.a_law_is_word T.d_law_is_word ["value"] spLWord) : FnOk P w K mg base CX0 2 T.a_law_is_makers T.d_law_is_makers ["value"] spLMakers := by
  refine T.F_law_is_makers.ok sc_law_is_makers (fun vs H Q E h => ?_) (fun cdv A outer s H vs Q E hr h => ?_)
  · obtain ⟨v, t, n, rfl, _⟩ := h; rfl
  · obtain ⟨v, t, n, rfl, hI, hO, q⟩ := h
    have hr_law_row := hr
    have hr_law_is_word := hr
    refine ⟨_, (pss_cons (ps_if (pt_not (pt_val (pe_call G_law_row hr_law_row rfl T.m_law_row T.F_law_row.kp T.b_law_row .nil pass0 (pa_cons (pv 0) (pa_cons pe_int (pa_cons pe_int pa_nil)))))) (pss_one (ps_ret pe_bl)) pss_nil)
    (pss_cons (ps_for PassesOwn.never rfl (pi_tup (pv 0)) (pg_name (i := 1) sc_law_is_makers.nd rfl (Or.inl rfl))
    (pss_cons (ps_if (PW.pt (pw_or (pt_not (pt_val (pe_call G_law_row hr_law_row rfl T.m_law_row T.F_law_row.kp T.b_law_row .nil pass0 (pa_cons (pv 1) (pa_cons pe_int (pa_cons pe_int pa_nil)))))) (pw_or1 (pt_not (pt_val (pe_call G_law_is_word hr_law_is_word rfl T.m_law_is_word T.F_law_is_word.kp T.b_law_is_word .nil pass0 (pa_cons (pe_ix ix_tup (pv 1) pe_int (fun _ _ => rfl)) pa_nil))))))) (pss_one (ps_ret pe_bl)) pss_nil)
    (pss_one (ps_if (PW.pt (pw_or (pt_not (pt_val (pe_callB call_isi (by rfl) T.z_isinstance (by decide +kernel) (pa_cons (pe_ix ix_tup (pv 1) pe_int (fun _ _ => rfl)) (pa_cons (pe_bltn rfl T.z_int (by decide +kernel) (show RelV (V.ty "int") (Value.type "int") from rfl)) pa_nil))))) (pw_or (pt_val (pe_callB call_isi (by rfl) T.z_isinstance (by decide +kernel) (pa_cons (pe_ix ix_tup (pv 1) pe_int (fun _ _ => rfl)) (pa_cons (pe_bltn rfl T.z_bool (by decide +kernel) (show RelV (V.ty "bool") (Value.type "bool") from rfl)) pa_nil)))) (pw_or1 (pt_cmpR op_notIn_seq (pe_ix ix_tup (pv 1) pe_int (fun _ _ => rfl)) (pe_lst (pa_cons pe_int (pa_cons pe_int (pa_cons pe_int pa_nil)))) (by rfl)))))) (pss_one (ps_ret pe_bl)) pss_nil))))
    (pss_one (ps_ret (pe_cmpR op_gt (pe_callB call_len_seq (by rfl) T.z_len (by decide +kernel) (pa_cons (pe_lc (own := [("row", 1)]) (g := (gName 1)) rfl sc_law_is_makers.nd (pi_tup (pv 0)) (blkOk_by (own := [("row", 1)]) (N := ["value", "row"]) (sc := defScope s_law_is_makers) (by decide +kernel)) (fun _ _ _ _ _ => (pg_name (i := 1) sc_law_is_makers.nd rfl (Or.inl rfl))) (fun _ _ _ _ _ => pts_one (pt_cmpR op_eq (pe_ix (ixTK (K := K)) (pv 1) pe_int (fun _ _ => rfl)) pe_int (nomark _))) (fun _ _ _ _ _ => (pv 1))) pa_nil)) pe_int (nomark _)))))), ?_⟩
    have q0 := q H (.refl H)
    refine ⟨_, rfl, v, t, 1, 5, rfl, hI, _, rfl, ?_⟩
    cases t with
    | oth _ => exact iteT q0
    | str _ => exact iteT q0
    | tup ts =>
    obtain ⟨p, us, rfl, ep, hL⟩ := hI.tup_inv
    have hlen := hL.len
    rw [show mkB (.tup ts) = (decide (1 ≤ ts.length) && decide (ts.length ≤ 5) && ts.all mrowB && ts.any fun t => mnum t == 0) from rfl] at q0
    replace q : ∀ H', Same H H' → Q (.bl (decide (1 ≤ ts.length) && decide (ts.length ≤ 5) && ts.all mrowB && ts.any fun t => mnum t == 0)) H' := q
    cases hrow : rowsB 1 5 (.tup ts) with
    | false =>
      rw [show (decide (1 ≤ ts.length) && decide (ts.length ≤ 5)) = false from hrow] at q0
      exact iteT q0
    | true =>
    rw [show (decide (1 ≤ ts.length) && decide (ts.length ≤ 5)) = true from hrow] at q q0
    have h5 : ts.length ≤ 5 := by
      have : (decide (1 ≤ ts.length) && decide (ts.length ≤ 5)) = true := hrow
      simp only [Bool.and_eq_true, decide_eq_true_eq] at this
      exact this.2
    refine iteF ⟨_, rfl, p, rfl, ⟨_, ep.sq⟩, ?_⟩
    refine for_tup (K := K) (a := p) (xs := us) (fun i σ H2 => ∃ y, σ = [some (.ref p), y] ∧ Same H H2 ∧ (ts.take i).all mrowB = true) ?_ ?_ ?_ ?_
    · exact ⟨none, rfl, .refl H, rfl⟩
    · rintro i σ H2 _ ⟨_, _, sm, _⟩
      exact (ep.same sm).sq
    · rintro i x σ H2 hx ⟨y, rfl, sm, hall⟩
      obtain ⟨t', et, it⟩ := hL.get hx
      have ot : Ok (n + 1) t' := hO.mem (List.mem_of_getElem? et)
      have fin : ∀ {H3}, Same H H3 → mrowB t' = false → Q (.bl false) H3 := fun {H3} s3 hm => by
        have := q H3 s3
        rw [not_all et hm] at this
        exact this
      refine ⟨_, rfl, x, t', 2, 2, rfl, it.same sm, _, rfl, ?_⟩
      cases hb : rowsB 2 2 t' with
      | false =>
        refine iteT (iteT (fin sm (mrow_not ?_)))
        cases t' with
        | tup l =>
          refine decide_eq_false fun e => ?_
          simp [rowsB, e] at hb
        | _ => rfl
      | true =>
      obtain ⟨a, b, rfl⟩ : ∃ a b, t' = .tup [a, b] := two_inv (by
        cases t' with
        | tup l =>
          simp only [rowsB, Bool.and_eq_true, decide_eq_true_eq] at hb
          exact decide_eq_true (by omega)
        | _ => cases hb)
      obtain ⟨p2, x1, x2, rfl, ep2, ia, ib⟩ := (it.same sm).two
      refine iteF ⟨_, rfl, p2, _, _, _, rfl, rfl, ep2.sq, atI_nat (j := 0) rfl, x1, a, n, rfl, ia, ot.mem (List.mem_cons_self ..), fun H3 s3 => ⟨_, rfl, ?_⟩⟩
      have sm3 := sm.trans s3
      cases hw : wordB a with
      | false =>
        refine iteT (fin sm3 ?_)
        unfold mrowB
        split
        · rename_i e
          cases e
          rw [show wok _ = false from hw, Bool.false_and]
        · rfl
      | true =>
      refine iteF ?_
      obtain ⟨ea, hw'⟩ := word_inv hw
      have ep3 := ep2.same s3
      obtain ⟨u, ty, kt⟩ := (ib.same s3).ty (K := K)
      have fin' : mrowB (.tup [.str (txt a), b]) = false → Q (.bl false) H3 := fun h => fin sm3 (by rw [ea]; exact h)
      refine ⟨_, rfl, p2, _, _, _, rfl, rfl, ep3.sq, atI_nat (j := 1) rfl, _, _, u, _, _, rfl, .ty _, ty, kit_int kt, _, rfl, ?_⟩
      cases b with
      | str _ => exact iteT (fin' rfl)
      | tup _ => exact iteT (fin' rfl)
      | oth o =>
        cases o with
        | non => exact iteT (fin' rfl)
        | lst => exact iteT (fin' rfl)
        | dict => exact iteT (fin' rfl)
        | bl b =>
          refine iteF ⟨_, rfl, p2, _, _, _, rfl, rfl, ep3.sq, atI_nat (j := 1) rfl, _, _, u, _, _, rfl, .ty _, ty, kit_bl kt, _, rfl, iteT (fin' rfl)⟩
        | int i =>
          cases ib
          refine iteF ⟨_, rfl, p2, _, _, _, rfl, rfl, ep3.sq, atI_nat (j := 1) rfl, _, _, u, _, _, rfl, .ty _, ty, kit_bl kt, _, rfl, iteF ?_⟩
          refine ⟨_, rfl, p2, _, _, _, rfl, rfl, ep3.sq, atI_nat (j := 1) rfl, (by show 3 ≤ sizeLine; decide), fun D hD => ?_⟩
          have s4 := same_upd hD (.lst [V.int 0, V.int 1, V.int 2])
          have e4 : inV (.int i) [V.int 0, V.int 1, V.int 2] = (decide (0 ≤ i) && decide (i ≤ 2)) := by
            rw [show inV (.int i) [V.int 0, V.int 1, V.int 2] = ([0, 1, 2] : List Int).any (fun n => n == i) from inV_int i [0, 1, 2], Bool.eq_iff_iff]
            simp only [List.any_cons, List.any_nil, Bool.or_false, Bool.or_eq_true, beq_iff_eq, Bool.and_eq_true, decide_eq_true_eq]
            omega
          refine ⟨D, _, rfl, .inl (SqL.of upd_same), rfl, rfl, _, rfl, ?_⟩
          rw [e4]
          cases hm : (decide (0 ≤ i) && decide (i ≤ 2)) with
          | false =>
            refine iteT (fin (sm3.trans s4) ?_)
            rw [ea]
            simp only [mrowB, hm, Bool.and_false]
          | true =>
            refine iteF ⟨_, rfl, sm3.trans s4, take_all et hall ?_⟩
            rw [ea]
            simp only [mrowB, hm, hw', Bool.and_true]
    · rintro σ H2 ⟨y, rfl, sm, hall⟩
      rw [hlen, List.take_length] at hall
      have hall0 := hall
      rw [hall] at q
      refine ⟨_, rfl, p, rfl, ⟨_, (ep.same sm).sq⟩, fun D hD => ?_⟩
      refine lc_tup (K := K) (a := p) (xs := us) (fun i H3 => ∃ acc, Same H2 H3 ∧ H3 D = some (.lst acc) ∧ acc.length ≤ i ∧ (acc.length == 0) = !(ts.take i).any fun t => mnum t == 0) ?_ ?_ ?_ ?_
      · exact ⟨[], same_upd hD _, upd_same, Nat.le_refl _, rfl⟩
      · exact fun i H3 _ ⟨_, s3, _⟩ => (ep.same (sm.trans s3)).sq
      · rintro i x H3 hx ⟨acc, s3, eD, hle, hno⟩
        obtain ⟨t', et, it⟩ := hL.get hx
        have hm : mrowB t' = true := List.all_eq_true.mp hall0 t' (List.mem_of_getElem? et)
        obtain ⟨et', _⟩ := mrow_inv hm
        rw [et', mkPV] at it
        obtain ⟨a, x1, x2, e0, ea, i1, i2⟩ := (it.same (sm.trans s3)).two
        subst e0
        cases i2
        have hi := (List.getElem?_eq_some_iff.mp et).1
        have tk : ((ts.take (i + 1)).any fun t => mnum t == 0) = (((ts.take i).any fun t => mnum t == 0) || (mnum t' == 0)) := by
          obtain ⟨hi, rfl⟩ := List.getElem?_eq_some_iff.mp et
          rw [List.take_succ_eq_append_getElem hi, List.any_append]; simp
        refine ⟨rfl, _, rfl, a, _, _, _, rfl, rfl, ea.sq, atI_nat (j := 1) rfl, rfl, _, rfl, ?_⟩
        rw [show decide (V.int (mnum t') = V.int 0) = (mnum t' == 0) from dec_int]
        cases hz : (mnum t' == 0) with
        | true =>
          refine iteT ⟨_, rfl, acc, eD, small1000 (by omega), acc ++ [.ref a], Kx.Same.own s3 hD _, upd_same, by rw [List.length_append, List.length_singleton]; omega, ?_⟩
          rw [tk, hz, Bool.or_true, List.length_append]; simp
        | false =>
          exact iteF ⟨acc, s3, eD, by omega, by rw [tk, hz, Bool.or_false]; exact hno⟩
      · rintro H3 ⟨acc, s3, eD, hle, hno⟩
        rw [hlen, List.take_length] at hno
        refine ⟨D, acc, rfl, .inl (SqL.of eD), _, _, rfl, rfl, ?_⟩
        show Q (.bl (decide ((0 : Int) < (acc.length : Int)))) H3
        rw [pos0, hno, Bool.not_not]
        exact q H3 (sm.trans s3)
end
end Kx
namespace Kx
open PySem PySem.Spec PyProof.Rows L2
section
variable {P : Program} {w : World} {K : PySem.W.Frag} {mg : Str → Option Value} {base : Heap}
theorem val_look (mk : List (Str × Int)) (z : Str) : valV (mk.map fun kv => ((Sum.inr kv.1 : Key), V.int kv.2)) (Sum.inr z) = (look mk z).map V.int := by
  induction mk with
  | nil => rfl
  | cons kv r ih =>
    rw [List.map_cons]
    by_cases h : kv.1 = z
    · rw [valV_pos (by rw [h])]
      simp [look, h]
    · rw [valV_neg (by intro e; exact h (Sum.inr.inj e)), ih]
      simp [look, h]
theorem merge_mk : ∀ (mk : List (Str × Int)) (acc : List (Key × V)), (acc.map (·.1) ++ mk.map fun kv => (Sum.inr kv.1 : Key)).Nodup → mergeK acc (mk.map fun kv => ((Sum.inr kv.1 : Key), V.int kv.2)) = acc ++ mk.map fun kv => ((Sum.inr kv.1 : Key), V.int kv.2)
  | [], acc, _ => by simp [mergeK]
  | kv :: r, acc, h => by
    have hn : valV acc (Sum.inr kv.1) = none := by
      cases e : valV acc (Sum.inr kv.1) with
      | none => rfl
      | some v =>
        exfalso
        have m := valV_in e
        rw [List.map_cons] at h
        exact (List.nodup_append.mp h).2.2 _ m _ (List.mem_cons_self ..) rfl
    have ih := merge_mk r (acc ++ [((Sum.inr kv.1 : Key), V.int kv.2)]) (by
      rw [List.map_append, List.append_assoc]
      exact h)
    show mergeK (putK acc (Sum.inr kv.1) (.int kv.2)) (r.map fun kv => ((Sum.inr kv.1 : Key), V.int kv.2)) = _
    rw [putK_new _ hn, ih, List.append_assoc]
    rfl
theorem merge_nil {mk : List (Str × Int)} (h : (mk.map (·.1)).Nodup) : mergeK [] (mk.map fun kv => ((Sum.inr kv.1 : Key), V.int kv.2)) = mk.map fun kv => ((Sum.inr kv.1 : Key), V.int kv.2) := by
  have e : (mk.map fun kv => (Sum.inr kv.1 : Key)) = (mk.map (·.1)).map Sum.inr := by simp
  have n : ((([] : List (Key × V)).map (·.1)) ++ mk.map fun kv => (Sum.inr kv.1 : Key)).Nodup := by
    rw [e]
    exact List.Pairwise.map _ (fun a b (q : a ≠ b) (z : (Sum.inr a : Key) = Sum.inr b) => q (Sum.inr.inj z)) h
  exact merge_mk mk [] n
theorem form_word {mk : List (Str × Int)} {nm : Bool} {w : Str} {ts : List PV} (h : form mk nm (.tup (.str w :: ts)) = true) : w ∈ mk.map (·.1) := by
  simp only [form, Bool.and_eq_true] at h
  have h1 := h.1
  unfold look at h1
  cases e : mk.find? (fun kv => kv.1 == w) with
  | none => rw [e] at h1; simp at h1
  | some kv =>
    have h2 := List.find?_some e
    have h3 := List.mem_of_find?_eq_some e
    exact List.mem_map.mpr ⟨kv, h3, by simpa using h2⟩
def RForm (mk : List (Str × Int)) (nm : Bool) : ResT := fun _ r ts => r = .bl true ∧ form mk nm (.tup ts) = true
theorem RForm.st (mk : List (Str × Int)) (nm : Bool) : Stable (RForm mk nm) := fun _ _ _ _ _ h => h
def spForm (C : Addr) (n : Nat) : Sp := fun vs H Q _ => ∃ (p : Addr) (mk : List (Str × Int)) (v : V) (t : PV) (nm : Bool) (ko : Addr) (H0 : Hp), vs = [.ref p, v, .bl nm, .ref ko] ∧ H0 p = some (.dK (mk.map fun kv => (Sum.inr kv.1, V.int kv.2))) ∧ (mk.map (·.1)).Nodup ∧ mk.length ≤ 20 ∧ Is H0 v t ∧ dep t ≤ n ∧ dep t ≤ 100 ∧ Same H0 H ∧ KeptAt C (mk.map (·.1)) (RForm mk nm) H0 H ko ∧
  ∀ H', Same H0 H' → Fr ko H H' → KeptAt C (mk.map (·.1)) (RForm mk nm) H0 H' ko → Q (.bl (form mk nm t)) H'
theorem ok_has_form {n : Nat} (T : Txt K mg) (G_has_form : FnOk P w K mg base CX0 (n+1) T.a_has_form T.d_has_form ["parts_by_word", "value", "may_have_names", "kept"] (spForm T.c_Kept n)) (G_Kept_pair_of : FnOk P w K mg base CX0 1 T.a_Kept_pair_of T.d_Kept_pair_of ["self", "tree"] (spKPair T.c_Kept)) (G_Kept_keep : FnOk P w K mg base CX0 1 T.a_Kept_keep T.d_Kept_keep ["self", "tree", "result"] (spKKeep T.c_Kept)) : FnOk P w K mg base CX0 (n+2) T.a_has_form T.d_has_form ["parts_by_word", "value", "may_have_names", "kept"] (spForm T.c_Kept (n+1)) := by
  refine T.F_has_form.ok sc_has_form (fun vs H Q E h => ?_) (fun cdv A outer s H vs Q E hr h => ?_)
  · obtain ⟨p, mk, v, t, nm, ko, H0, rfl, _⟩ := h; rfl
  · obtain ⟨p, mk, v, t, nm, ko, H0, rfl, hP0, nd, m5, hI0, hn, h100, s0, hK, q⟩ := h
    have hu := hu_of hr
    have hr_has_form := hr
    have st := RForm.st mk nm
    have hr_Kept_pair_of : Room 1 _ := hr.mono (by omega)
    have hr_Kept_keep : Room 1 _ := hr.mono (by omega)
    have hI := hI0.same s0
    have hP := s0 _ _ hP0
    have q0 := fun b (e : form mk nm t = b) => e ▸ q H s0 (.refl _ _) hK
    refine ⟨_, (pss_cons (ps_if (pt_val (pe_callB call_isi (by rfl) T.z_isinstance (by decide +kernel) (pa_cons (pv 1) (pa_cons (pe_bltn rfl T.z_str (by decide +kernel) (show RelV (V.ty "str") (Value.type "str") from rfl)) pa_nil)))) (pss_one (ps_ret (pe_and (pv 2) (pe_one (pe_cmp (pc_dnotin hu (pv 1) (pv 0)) rfl))))) pss_nil)
    (pss_cons (ps_if (PW.pt (pw_or (pt_not (pt_val (pe_callB call_isi (by rfl) T.z_isinstance (by decide +kernel) (pa_cons (pv 1) (pa_cons (pe_bltn rfl T.z_tuple (by decide +kernel) (show RelV (V.ty "tuple") (Value.type "tuple") from rfl)) pa_nil))))) (pw_or (pt_not (pt_truth (pv 1) (by intro _; rfl))) (pw_or1 (pt_not (pt_val (pe_callB call_isi (by rfl) T.z_isinstance (by decide +kernel) (pa_cons (pe_ix ix_tup (pv 1) pe_int (fun _ _ => rfl)) (pa_cons (pe_bltn rfl T.z_str (by decide +kernel) (show RelV (V.ty "str") (Value.type "str") from rfl)) pa_nil))))))))) (pss_one (ps_ret pe_bl)) pss_nil)
    (pss_cons (ps_if (pt_cmpR op_ne (pe_dget2 hu (pv 0) (pe_ix ix_tup (pv 1) pe_int (fun _ _ => rfl)) (pe_un un_neg pe_int) ⟨rfl, rfl, rfl, rfl⟩) (pe_op op_sub (pe_callB call_len_seq (by rfl) T.z_len (by decide +kernel) (pa_cons (pv 1) pa_nil)) pe_int) (nomark _)) (pss_one (ps_ret pe_bl)) pss_nil)
    (pss_cons (ps_if (pt_cmpR op_notN (pe_meth (pv 3) T.cl_Kept T.me_Kept_pair_of G_Kept_pair_of hr_Kept_pair_of T.b_Kept_pair_of .nil pass0 (pa_cons (pv 1) pa_nil)) pe_non (nomark _)) (pss_one (ps_ret pe_bl)) pss_nil)
    (pss_cons (ps_for PassesOwn.never rfl (pi_tup (pe_slice sl_tup (pv 1) (po_some pe_int) po_none)) (pg_name (i := 4) sc_has_form.nd rfl (Or.inl rfl))
    (pss_one (ps_if (pt_not (pt_val (pe_call G_has_form hr_has_form rfl T.m_has_form T.F_has_form.kp T.b_has_form .nil pass0 (pa_cons (pv 0) (pa_cons (pv 4) (pa_cons (pv 2) (pa_cons (pv 3) pa_nil))))))) (pss_one (ps_ret pe_bl)) pss_nil)))
    (pss_cons (ps_expr (pe_meth (pv 3) T.cl_Kept T.me_Kept_keep G_Kept_keep hr_Kept_keep T.b_Kept_keep .nil pass0 (pa_cons (pv 1) (pa_cons pe_bl pa_nil))))
    (pss_one (ps_ret pe_bl)))))))), ?_⟩
    obtain ⟨u, ty, kt⟩ := hI.ty (K := K)
    refine ⟨_, rfl, _, _, u, _, _, rfl, .ty _, ty, kit_str kt, _, rfl, ite2 (fun c => ?_) (fun c => ?_)⟩
    · cases t with
      | oth _ => cases c
      | tup ts => cases c
      | str z =>
      cases hI.str_inv
      refine ⟨_, rfl, nm, rfl, ?_⟩
      cases nm with
      | false => exact iteF (q0 _ rfl)
      | true =>
        refine iteT ⟨_, rfl, _, rfl, p, _, rfl, DGet.k (k := Sum.inr z) hP, ?_⟩
        rw [val_look]
        have e : form mk true (.str z) = (!((look mk z).map V.int).isSome) := by
          simp only [form]
          cases look mk z <;> rfl
        exact q0 _ e
    · refine ⟨_, rfl, _, _, u, _, _, rfl, .ty _, ty, kit_tup kt, _, rfl, ?_⟩
      cases t with
      | str z => exact absurd rfl c
      | oth _ => exact iteT (iteT (q0 _ rfl))
      | tup ts =>
      obtain ⟨a, vs, rfl, ea0, hL0⟩ := hI0.tup_inv
      have ea := ea0.same s0
      refine iteF ⟨_, rfl, _, .inr (.inl ⟨_, ea.sq, rfl⟩), ?_⟩
      cases hL0 with
      | nil => exact iteT (iteT (q0 _ rfl))
      | @cons x0 vs t0 ts h0 hL =>
      refine iteF ⟨_, rfl, a, _, _, _, rfl, rfl, ea.sq, atI_nat (j := 0) rfl, ?_⟩
      obtain ⟨u0, ty0, kt0⟩ := (h0.same s0).ty (K := K)
      refine ⟨_, _, u0, _, _, rfl, .ty _, ty0, kit_str kt0, _, rfl, ?_⟩
      cases t0 with
      | oth _ => exact iteT (q0 _ rfl)
      | tup _ => exact iteT (q0 _ rfl)
      | str w0 =>
      cases h0.str_inv
      have hlen := hL.len
      refine iteF ?_
      have hget : DGet H p (.str w0) ((look mk w0).map V.int) := by
        rw [← val_look]
        exact DGet.k (k := Sum.inr w0) hP
      refine ⟨_, rfl, p, rfl, .inl ⟨_, .of hP⟩, _, rfl, a, _, _, _, rfl, rfl, ea.sq, atI_nat (j := 0) rfl, _, rfl, (look mk w0).map V.int, hget, ?_⟩
      refine ⟨_, rfl, a, _, rfl, .inr ea.sq, _, _, rfl, rfl, ?_⟩
      have scl : scal (((look mk w0).map V.int).getD (.int (-1))) (.int ((((V.str w0 :: vs).length : Nat) : Int) - 1)) = true := by
        cases look mk w0 <;> rfl
      refine ⟨scl, _, rfl, ?_⟩
      have cmp : (!decide ((((look mk w0).map V.int).getD (.int (-1))) = .int ((((V.str w0 :: vs).length : Nat) : Int) - 1))) = !(look mk w0 == some (ts.length : Int)) := by
        have e : ((((V.str w0 :: vs).length : Nat) : Int) - 1) = (ts.length : Int) := by rw [List.length_cons, hlen]; omega
        rw [e]
        congr 1
        cases hlk : look mk w0 with
        | none =>
          show decide (V.int (-1) = V.int (ts.length : Int)) = false
          rw [dec_int]
          exact beq_eq_false_iff_ne.mpr (by omega)
        | some i =>
          show decide (V.int i = V.int (ts.length : Int)) = _
          rw [dec_int]
          rfl
      rw [cmp]
      cases hk : (look mk w0 == some (ts.length : Int)) with
      | false =>
        have e : form mk nm (.tup (.str w0 :: ts)) = false := by simp only [form, hk, Bool.false_and]
        exact iteT (q0 _ e)
      | true =>
      have ef : form mk nm (.tup (.str w0 :: ts)) = ts.all (form mk nm) := by simp only [form, hk, Bool.true_and, formL_all]
      have cN : depL ts < dep (.tup (.str w0 :: ts)) := by simp only [dep, depL]; omega
      -- kept.pair_of(value) is not None
      refine iteF ?_
      obtain ⟨dx, d, kvs, h1, _⟩ := id hK
      refine ⟨_, rfl, ko, dx, _, rfl, h1, rfl, _, rfl, ko, a, w0, vs, ts, _, _, H0, rfl, st, s0, hK, ea0, hI0, fun e he => ?_⟩
      have se := same_upd he (.lst [])
      have sK := hK.same st se
      have s0e := s0.trans se
      refine ⟨⟨rfl, _, rfl, ?_⟩, fun pp v2 r hp hR => ⟨rfl, _, rfl, iteT (hR.2 ▸ q _ s0e (Fr.of se hK) sK)⟩⟩
      have ea1 := ea.same se
      refine iteF ⟨_, rfl, _, rfl, a, _, rfl, ea1.sq, slice1, fun p1 hp1 => ?_⟩
      rw [cut1]
      have s1 := same_upd hp1 (.tup vs)
      have s01 := s0e.trans s1
      have t01 : Fr ko H _ := (Fr.of se hK).trans (Fr.of s1 sK)
      refine ⟨p1, rfl, ⟨_, .inl (.inl upd_same)⟩, ?_⟩
      refine for_tup (K := K) (a := p1) (xs := vs) (fun i σ H2 => ∃ y3, σ = [some (.ref p), some (.ref a), some (.bl nm), some (.ref ko), y3] ∧ Same H0 H2 ∧ Fr ko (upd (upd H e (.lst [])) p1 (.tup vs)) H2 ∧ KeptAt T.c_Kept (mk.map (·.1)) (RForm mk nm) H0 H2 ko ∧ (ts.take i).all (form mk nm) = true) ?_ ?_ ?_ ?_
      · exact ⟨_, rfl, s01, .refl _ _, sK.same st s1, rfl⟩
      · exact fun i σ H2 _ ⟨_, _, _, tu, _⟩ => .inl (.inl (tu.tu _ _ upd_same (fun _ z => by cases z) (fun _ z => by cases z)))
      · intro i x σ H2 hx ⟨y3, es, sm, tu, k2, hall⟩
        subst es
        obtain ⟨y, ey, hy⟩ := hL.get hx
        have hm := List.mem_of_getElem? ey
        have cy := depL_mem hm
        refine ⟨_, rfl, _, rfl, _, rfl, _, rfl, p, mk, x, y, nm, ko, H0, rfl, hP0, nd, m5, hy, by omega, by omega, sm, k2, fun H3 s3 t3 k3 => ?_⟩
        refine ⟨_, rfl, ?_⟩
        cases hf : form mk nm y with
        | false =>
          have e : form mk nm (.tup (.str w0 :: ts)) = false := by
            rw [ef, List.all_eq_false]
            exact ⟨y, hm, by rw [hf]; exact Bool.false_ne_true⟩
          exact iteT (e ▸ q H3 s3 ((t01.trans tu).trans t3) k3)
        | true =>
          refine iteF ⟨_, rfl, s3, tu.trans t3, k3, ?_⟩
          have hi := (List.getElem?_eq_some_iff.mp ey)
          obtain ⟨hi, ey2⟩ := hi
          rw [List.take_succ_eq_append_getElem hi, List.all_append, hall, ey2]
          simp [hf]
      · intro σ H2 ⟨y3, es, sm, tu, k2, hall⟩
        subst es
        rw [hlen, List.take_length] at hall
        have e : form mk nm (.tup (.str w0 :: ts)) = true := ef.trans hall
        obtain ⟨dx2, d2, kvs2, g1, _⟩ := id k2
        refine ⟨_, rfl, ko, dx2, _, rfl, g1, rfl, _, rfl, ko, a, .bl true, w0, vs, ts, _, _, H0, rfl, st, sm, k2, by rw [List.length_map]; exact m5, ea0, hI0, form_word e, form_tm _ e, by omega, ⟨rfl, e⟩, fun H3 s3 t3 k3 => ?_⟩
        exact e ▸ q H3 s3 ((t01.trans tu).trans t3) k3
end
end Kx
namespace Kx
open PySem PySem.Spec PyProof.Rows L2
section
variable {P : Program} {w : World} {K : PySem.W.Frag} {mg : Str → Option Value} {base : Heap}
set_option pp.maxSteps 900
/-- all but the list at d stands; it is a list still -/
structure El (d : Addr) (H H' : Hp) : Prop where
  but : ∀ b o, b ≠ d → H b = some o → H' b = some o
  lst : (∃ xs, H d = some (.lst xs)) → ∃ xs, H' d = some (.lst xs)
theorem El.refl (d : Addr) (H : Hp) : El d H H := ⟨fun _ _ _ h => h, fun h => h⟩
theorem El.trans {d : Addr} {H H1 H2 : Hp} (a : El d H H1) (b : El d H1 H2) : El d H H2 := ⟨fun c o n h => b.but c o n (a.but c o n h), fun h => b.lst (a.lst h)⟩
theorem El.of {d : Addr} {H H' : Hp} (s : Same H H') : El d H H' := ⟨fun b o _ h => s b o h, fun ⟨xs, h⟩ => ⟨xs, s _ _ h⟩⟩
theorem El.set {d : Addr} {H : Hp} (xs : List V) : El d H (upd H d (.lst xs)) := ⟨fun b o n h => by rw [upd_ne n]; exact h, fun _ => ⟨xs, upd_same⟩⟩
theorem TupF.el {d : Addr} {H H' : Hp} (x : El d H H') (e : ∃ xs, H d = some (.lst xs)) {a : Addr} {vs : List V} (h : TupF H a vs) : TupF H' a vs := by
  obtain ⟨o, z, od⟩ := h
  obtain ⟨xs, e⟩ := e
  exact ⟨o, x.but a _ (fun q => by subst q; rw [e] at z; cases z) z, od⟩
mutual
theorem Is.el {d : Addr} {H H' : Hp} (x : El d H H') (e : ∃ xs, H d = some (.lst xs)) : ∀ {v : V} {t : PV}, Is H v t → Is H' v t
  | _, _, .str z k => .str z k
  | _, _, .non => .non
  | _, _, .bl b => .bl b
  | _, _, .int i => .int i
  | _, _, .lst (a := a) g => by
    by_cases q : a = d
    · subst q; exact .lst (x.lst g)
    · obtain ⟨xs, g⟩ := g; exact .lst ⟨xs, x.but _ _ q g⟩
  | _, _, .dict (a := a) (kvs := kvs) g => .dict (kvs := kvs) (x.but _ _ (fun q => by subst q; obtain ⟨xs, e⟩ := e; rw [e] at g; cases g) g)
  | _, _, .tup g h => .tup (g.el x e) (IsL.el x e h)
theorem IsL.el {d : Addr} {H H' : Hp} (x : El d H H') (e : ∃ xs, H d = some (.lst xs)) : ∀ {v : List V} {t : List PV}, IsL H v t → IsL H' v t
  | _, _, .nil => .nil
  | _, _, .cons h r => .cons (Is.el x e h) (IsL.el x e r)
end
theorem tm_inv : ∀ {ts : List PV}, Tm (.tup ts) → ∃ w r, ts = .str w :: r ∧ TmL r
  | .str w :: r, h => ⟨w, r, rfl, h⟩
theorem tm_tup_inv {H : Hp} {v : V} {t : PV} (hI : Is H v t) (hT : Tm t) (c : isStr t = false) : ∃ a w vs ts, v = .ref a ∧ t = .tup (.str w :: ts) ∧ TupF H a (.str w :: vs) ∧ IsL H vs ts ∧ TmL ts := by
  cases t with
  | str z => cases c
  | oth i => exact absurd hT (by simp [Tm])
  | tup l =>
    obtain ⟨a, vs, rfl, ea, hL⟩ := hI.tup_inv
    obtain ⟨w, ts, rfl, h⟩ := tm_inv hT
    cases hL with
    | cons h0 hL =>
      cases h0.str_inv
      exact ⟨a, w, _, ts, rfl, rfl, ea, hL, h⟩
theorem cnt_cons (w : Str) (ts : List PV) : cnt (.tup (.str w :: ts)) = 2 + cntL ts := by simp only [cnt, cntL]; omega
def spNames (n : Nat) : Sp := fun vs H Q _ => ∃ v t, vs = [v] ∧ Is H v t ∧ Tm t ∧ cnt t ≤ n ∧ cnt t ≤ 100 ∧ ∀ a H', Same H H' → H a = none → H' a = some (.lst ((nms t).map V.str)) → Q (.ref a) H'
theorem ok_names_of {n : Nat} (T : Txt K mg)  : FnOk P w K mg base CX0 1 T.a_names_of T.d_names_of ["term"] (spNames n) := by
  refine T.F_names_of.ok sc_names_of (fun vs H Q E h => ?_) (fun cdv A outer s H vs Q E hr h => ?_)
  · obtain ⟨v, t, rfl, _⟩ := h; rfl
  · obtain ⟨v, t, rfl, hI, hT, hn, h100, q⟩ := h
    refine ⟨_, (pss_cons (ps_set (i := 1) sc_names_of.nd rfl (Or.inl rfl) (pe_lst pa_nil))
    (pss_cons (ps_set (i := 2) sc_names_of.nd rfl (Or.inl rfl) (pe_lst (pa_cons (pv 0) pa_nil)))
    (pss_cons (ps_while PassesOwn.never (pt_truth (pv 2) (by intro _; rfl))
    (pss_cons (ps_set (i := 3) sc_names_of.nd rfl (Or.inl rfl) (pe_bm0 PySem.F.plainAttrs_list PySem.F.slot_list_pop PySem.F.type_list_pop mt_pop (pv 2)))
    (pss_one (ps_if (pt_val (pe_callB call_isi (by rfl) T.z_isinstance (by decide +kernel) (pa_cons (pv 3) (pa_cons (pe_bltn rfl T.z_tuple (by decide +kernel) (show RelV (V.ty "tuple") (Value.type "tuple") from rfl)) pa_nil)))) (pss_one (ps_expr (pe_bm PySem.F.plainAttrs_list PySem.F.slot_list_extend PySem.F.type_list_extend mt_extT (pv 2) (pa_cons (pe_cutback (pv 3)) pa_nil)))) (pss_one (ps_if (pt_cmpR op_notIn_seq (pv 3) (pv 1) (by rfl)) (pss_one (ps_expr (pe_bm PySem.F.plainAttrs_list PySem.F.slot_list_append PySem.F.type_list_append mt_append (pv 1) (pa_cons (pv 3) pa_nil)))) pss_nil))))))
    (pss_one (ps_ret (pv 1)))))), ?_⟩
    refine ⟨(by show 0 ≤ sizeLine; decide), fun fa hf => ?_⟩
    refine ⟨_, rfl, (by show 1 ≤ sizeLine; decide), fun ta ht => ?_⟩
    have s1 := same_upd hf (.lst [])
    have s2 := same_upd ht (.lst [v])
    have ft : H ta = none := s1.free ht
    have nft : fa ≠ ta := ne_of_none upd_same ht
    refine ⟨fun m σ H2 => ∃ y3 vs ts f, σ = [some v, some (.ref fa), some (.ref ta), y3] ∧ Same H H2 ∧ H2 fa = some (.lst (f.map V.str)) ∧ H2 ta = some (.lst vs) ∧ IsL H2 vs ts ∧ (∀ x ∈ ts, Tm x) ∧ cntL ts = m ∧ f.length + cntL ts ≤ 100 ∧ dd f (lvL ts.reverse) = nms t, ⟨cnt t, ?_⟩, ?_⟩
    · refine ⟨none, [v], [t], [], rfl, s1.trans s2, ?_, upd_same, .cons ((hI.same s1).same s2) .nil, fun x hx => by rw [List.mem_singleton.mp hx]; exact hT, by simp [cntL], ?_, ?_⟩
      · rw [upd_ne nft, upd_same]; rfl
      · simp [cntL]; exact h100
      · simp [lvL, nms]
    · intro m σ H2 ⟨y3, vs, ts, f, es, sm, ef, et, hL, hTs, hm, hb, hd⟩
      subst es
      refine ⟨_, rfl, _, .inl ⟨_, SqL.of et, rfl⟩, ?_⟩
      refine ite2 (fun cv => ?_) (fun cv => ?_)
      case refine_2 =>
        have hv : vs = [] := by cases vs with | nil => rfl | cons _ _ => exact absurd rfl cv
        subst hv
        cases hL
        have e : f = nms t := hd
        rw [e] at ef
        exact ⟨_, rfl, q fa H2 sm hf ef⟩
      have hne : vs ≠ [] := by intro e; rw [e] at cv; cases cv
      have hlast : vs[vs.length - 1]? = some (vs.getLast hne) := by
        rw [List.getLast_eq_getElem, List.getElem?_eq_getElem]
      obtain ⟨ts', y, ets, hy, hL'⟩ := hL.snoc_inv hlast hne
      have hlen := hL'.len
      have cts : cntL ts = cntL ts' + cnt y := by rw [ets, cntL_append]; simp [cntL]
      have cy := cnt_pos y
      refine ⟨fun σ' H' => ∃ m', m' < m ∧ ∃ y3 vs ts f, σ' = [some v, some (.ref fa), some (.ref ta), y3] ∧ Same H H' ∧ H' fa = some (.lst (f.map V.str)) ∧ H' ta = some (.lst vs) ∧ IsL H' vs ts ∧ (∀ x ∈ ts, Tm x) ∧ cntL ts = m' ∧ f.length + cntL ts ≤ 100 ∧ dd f (lvL ts.reverse) = nms t, fun σ' H' z => z, ?_⟩
      refine ⟨_, rfl, .inl ⟨rfl, _, SqL.of et⟩, ta, vs, _, rfl, rfl, et, hlast, ?_⟩
      have x3 : El ta H2 (upd H2 ta (.lst vs.dropLast)) := .set _
      have sm3 : Same H (upd H2 ta (.lst vs.dropLast)) := Kx.Same.own sm ft _
      have hy3 := hy.el x3 ⟨_, et⟩
      have hL3 := hL'.el x3 ⟨_, et⟩
      have ef3 : (upd H2 ta (.lst vs.dropLast)) fa = some (.lst (f.map V.str)) := by rw [upd_ne nft]; exact ef
      have yT : Tm y := hTs y (by rw [ets]; simp)
      have hTs' : ∀ x ∈ ts', Tm x := fun x hx => hTs x (by rw [ets]; exact List.mem_append_left _ hx)
      obtain ⟨u, ty, kt⟩ := hy3.ty (K := K)
      have lrev : lvL ts.reverse = lv y ++ lvL ts'.reverse := by rw [ets, List.reverse_append]; rfl
      refine ⟨_, rfl, _, _, u, _, _, rfl, .ty _, ty, kit_tup kt, _, rfl, ite2 (fun c => ?_) (fun c => ?_)⟩
      · obtain ⟨a, w, vs2, r, ev, rfl, ea, hL2, hr2⟩ := tm_tup_inv hy3 yT (by cases y with | str z => cases c | oth i => rfl | tup l => rfl)
        rw [ev]
        refine ⟨_, rfl, .inl ⟨rfl, _, SqL.of upd_same⟩, _, rfl, a, _, rfl, ea.sq, by simp, fun p o hp od os => ?_⟩
        have s4 := same_upd hp (.frz o (.tup ((V.str w :: vs2).drop 1).reverse))
        rw [cnt_cons] at cts cy
        have hlen2 := hL2.len
        have cl := cntL_len r
        have cl2 := cntL_len ts'
        refine ⟨ta, p, _, _, rfl, rfl, s4 _ _ upd_same, ⟨o, upd_same, od, os⟩, ?_, ?_⟩
        · rw [List.length_reverse, List.drop_one, List.tail_cons, hlen, hlen2]
          exact Nat.le_of_lt (small1000 (by omega))
        · have x5 : El ta (upd H2 ta (.lst vs.dropLast)) (upd (upd (upd H2 ta (.lst vs.dropLast)) p (.frz o (.tup ((V.str w :: vs2).drop 1).reverse))) ta (.lst (vs.dropLast ++ ((V.str w :: vs2).drop 1).reverse))) := (El.of s4).trans (.set _)
          refine ⟨cntL (ts' ++ r.reverse), ?_, _, _, ts' ++ r.reverse, f, rfl, Kx.Same.own (sm3.trans s4) ft _, ?_, upd_same, (hL3.append hL2.reverse).el x5 ⟨_, upd_same⟩, ?_, rfl, ?_, ?_⟩
          · rw [cntL_append, cntL_reverse]; omega
          · rw [upd_ne nft]; exact s4 _ _ ef3
          · intro x hx
            rcases List.mem_append.mp hx with h | h
            · exact hTs' x h
            · exact mem_TmL hr2 x (List.mem_reverse.mp h)
          · rw [cntL_append, cntL_reverse]; omega
          · rw [← hd, lrev, List.reverse_append, List.reverse_reverse, lvL_append]
            rfl
      · cases y with
        | oth i => exact absurd yT (by simp [Tm])
        | tup l => exact absurd rfl c
        | str z =>
        rw [hy.str_inv]
        refine ⟨_, rfl, _, rfl, fa, _, rfl, .inl (SqL.of ef3), rfl, flat_str f, _, rfl, ?_⟩
        rw [inV_str]
        have e1 : dd f (lvL ts.reverse) = dd (add1 f z) (lvL ts'.reverse) := by rw [lrev]; rfl
        have c1 : cnt (.str z) = 1 := by simp [cnt]
        refine ite2 (fun c2 => ?_) (fun c2 => ?_)
        · have nz : z ∉ f := by simpa using c2
          have ea1 : add1 f z = f ++ [z] := by simp [add1, nz]
          refine ⟨_, rfl, .inl ⟨rfl, _, SqL.of ef3⟩, _, rfl, fa, _, _, rfl, rfl, ef3, ?_, ?_⟩
          · rw [List.length_map]; exact small1000 (by omega)
          · have x6 : El fa (upd H2 ta (.lst vs.dropLast)) (upd (upd H2 ta (.lst vs.dropLast)) fa (.lst (f.map V.str ++ [.str z]))) := .set _
            refine ⟨cntL ts', by omega, _, _, ts', f ++ [z], rfl, Kx.Same.own sm3 hf _, ?_, ?_, hL3.el x6 ⟨_, ef3⟩, hTs', rfl, ?_, ?_⟩
            · rw [upd_same, List.map_append]; rfl
            · rw [upd_ne nft.symm, upd_same]
            · rw [List.length_append, List.length_singleton]; omega
            · rw [← hd, e1, ea1]
        · have nz : z ∈ f := by simpa using c2
          have ea1 : add1 f z = f := by simp [add1, nz]
          refine ⟨cntL ts', by omega, _, _, ts', f, rfl, sm3, ef3, upd_same, hL3, hTs', rfl, by omega, ?_⟩
          rw [← hd, e1, ea1]
/-! ### deeper than so many -/
def spDeep (n : Nat) : Sp := fun vs H Q _ => ∃ v t, ∃ k : Nat, vs = [v, .int k] ∧ k < n ∧ Is H v t ∧ Tm t ∧ ∀ H', Same H H' → Q (.bl (deeper k t)) H'
theorem ok_is_deeper {n : Nat} (T : Txt K mg) (G_is_deeper : FnOk P w K mg base CX0 (n+1) T.a_is_deeper T.d_is_deeper ["term", "most"] (spDeep n)) : FnOk P w K mg base CX0 (n+2) T.a_is_deeper T.d_is_deeper ["term", "most"] (spDeep (n+1)) := by
  refine T.F_is_deeper.ok sc_is_deeper (fun vs H Q E h => ?_) (fun cdv A outer s H vs Q E hr h => ?_)
  · obtain ⟨v, t, k, rfl, _⟩ := h; rfl
  · obtain ⟨v, t, k, rfl, hk, hI, hT, q⟩ := h
    have hr_is_deeper := hr
    refine ⟨_, (pss_cons (ps_if (pt_cmpR op_eq (pv 1) pe_int (nomark _)) (pss_one (ps_ret pe_bl)) pss_nil)
    (pss_cons (ps_if (pt_val (pe_callB call_isi (by rfl) T.z_isinstance (by decide +kernel) (pa_cons (pv 0) (pa_cons (pe_bltn rfl T.z_str (by decide +kernel) (show RelV (V.ty "str") (Value.type "str") from rfl)) pa_nil)))) (pss_one (ps_ret pe_bl)) pss_nil)
    (pss_cons (ps_for PassesOwn.never rfl (pi_tup (pe_slice sl_tup (pv 0) (po_some pe_int) po_none)) (pg_name (i := 2) sc_is_deeper.nd rfl (Or.inl rfl))
    (pss_one (ps_if (pt_val (pe_call G_is_deeper hr_is_deeper rfl T.m_is_deeper T.F_is_deeper.kp T.b_is_deeper .nil pass0 (pa_cons (pv 2) (pa_cons (pe_op op_sub (pv 1) pe_int) pa_nil)))) (pss_one (ps_ret pe_bl)) pss_nil)))
    (pss_one (ps_ret pe_bl))))), ?_⟩
    refine ⟨_, rfl, rfl, _, rfl, ?_⟩
    cases k with
    | zero =>
      rw [show decide (V.int ((0 : Nat) : Int) = V.int 0) = true from rfl]
      refine iteT ?_
      have := q H (.refl H)
      simp only [deeper] at this
      exact this
    | succ k =>
    rw [show decide (V.int ((k + 1 : Nat) : Int) = V.int 0) = false by rw [dec_int]; exact beq_eq_false_iff_ne.mpr (by omega)]
    refine iteF ?_
    obtain ⟨u, ty, kt⟩ := hI.ty (K := K)
    refine ⟨_, rfl, _, _, u, _, _, rfl, .ty _, ty, kit_str kt, _, rfl, ?_⟩
    cases hs : isStr t with
    | true =>
      cases t with
      | str z => exact iteT (q H (.refl H))
      | oth _ => cases hs
      | tup _ => cases hs
    | false =>
    refine iteF ?_
    obtain ⟨a, w, vs, ts, rfl, rfl, ea, hL, hTs⟩ := tm_tup_inv hI hT hs
    have hlen := hL.len
    refine ⟨_, rfl, _, rfl, a, _, rfl, ea.sq, slice1, fun p1 hp1 => ?_⟩
    rw [cut1]
    have s1 := same_upd hp1 (.tup vs)
    refine ⟨p1, rfl, ⟨_, .inl (.inl upd_same)⟩, ?_⟩
    replace q : ∀ H', Same H H' → Q (.bl (ts.any (deeper k))) H' := q
    refine for_tup (K := K) (a := p1) (xs := vs) (fun i σ H2 => ∃ y, σ = [some (.ref a), some (.int ((k + 1 : Nat) : Int)), y] ∧ Same (upd H p1 (.tup vs)) H2 ∧ (ts.take i).any (deeper k) = false) ?_ ?_ ?_ ?_
    · exact ⟨none, rfl, .refl _, rfl⟩
    · exact fun i σ H2 _ ⟨_, _, sm, _⟩ => .inl (.inl (sm _ _ upd_same))
    · rintro i x σ H2 hx ⟨y, rfl, sm, hno⟩
      obtain ⟨t', et, it⟩ := hL.get hx
      refine ⟨_, rfl, _, rfl, _, _, rfl, rfl, x, t', k, by show [x, V.int (((k + 1 : Nat) : Int) - 1)] = _; rw [show ((k + 1 : Nat) : Int) - 1 = (k : Int) by omega], by omega, it.same (s1.trans sm), mem_TmL hTs t' (List.mem_of_getElem? et), fun H3 s3 => ⟨_, rfl, ?_⟩⟩
      have sm3 := sm.trans s3
      cases hd : deeper k t' with
      | true =>
        have e : ts.any (deeper k) = true := List.any_eq_true.mpr ⟨t', List.mem_of_getElem? et, hd⟩
        have := q H3 (s1.trans sm3)
        rw [e] at this
        exact iteT this
      | false =>
        refine iteF ⟨_, rfl, sm3, ?_⟩
        obtain ⟨hi, e⟩ := List.getElem?_eq_some_iff.mp et
        rw [List.take_succ_eq_append_getElem hi, List.any_append, hno, e]
        simp [hd]
    · rintro σ H2 ⟨y, rfl, sm, hno⟩
      rw [hlen, List.take_length] at hno
      have := q H2 (s1.trans sm)
      rw [hno] at this
      exact this
/-! ### terms over the makers of a table -/
/-- the makers of a table -/
structure MkAt (H : Hp) (m : Addr) (mk : List (Str × Int)) : Prop where
  ex : ∃ mvs, TupF H m mvs ∧ IsL H mvs (mk.map mkPV)
theorem MkAt.same {H H' : Hp} {m : Addr} {mk : List (Str × Int)} (s : Same H H') (h : MkAt H m mk) : MkAt H' m mk := by
  obtain ⟨mvs, e, i⟩ := h.ex
  exact ⟨mvs, e.same s, i.same s⟩
theorem mk_refs {H : Hp} : ∀ {mk : List (Str × Int)} {mvs : List V}, IsL H mvs (mk.map mkPV) → ∃ ps : List Addr, mvs = ps.map V.ref ∧ Paired (fun p kv => SqT K H p [kV kv.1, kv.2]) ps (mk.map kvM)
  | [], _, .nil => ⟨[], rfl, .nil⟩
  | m :: r, _, .cons h t => by
    obtain ⟨ps, e, pp⟩ := mk_refs t
    obtain ⟨p, x, y, e0, ep, i1, i2⟩ := h.two
    cases i1
    cases i2
    subst e0 e
    exact ⟨p :: ps, rfl, .cons ep.sq pp⟩
def spTerm : Sp := fun vs H Q _ => ∃ (m : Addr) (mk : List (Str × Int)) (v : V) (t : PV), vs = [.ref m, v] ∧ MkAt H m mk ∧ mk.length ≤ 5 ∧ Is H v t ∧ dep t ≤ 30 ∧ ∀ H', Same H H' → Q (.bl (form (merged mk) true t)) H'
theorem ok_is_term (T : Txt K mg) (G_has_form : FnOk P w K mg base CX0 32 T.a_has_form T.d_has_form ["parts_by_word", "value", "may_have_names", "kept"] (spForm T.c_Kept 30)) (G_Kept_init : FnOk P w K mg base CX0 1 T.a_Kept_init T.d_Kept_init ["self"] (spKInit T.c_Kept)) : FnOk P w K mg base CX0 33 T.a_is_term T.d_is_term ["makers", "value"] spTerm := by
  refine T.F_is_term.ok sc_is_term (fun vs H Q E h => ?_) (fun cdv A outer s H vs Q E hr h => ?_)
  · obtain ⟨m, mk, v, t, rfl, _⟩ := h; rfl
  · obtain ⟨m, mk, v, t, rfl, hM, l5, hI, hn, q⟩ := h
    have hr_has_form := hr
    have hr_Kept_init : Room 2 _ := hr.mono (by omega)
    refine ⟨_, (pss_one (ps_ret (pe_call G_has_form hr_has_form rfl T.m_has_form T.F_has_form.kp T.b_has_form .nil pass0 (pa_cons (pe_callTy (call_dictT rfl) (by rfl) T.z_dict (by decide +kernel) (pa_cons (pv 0) pa_nil)) (pa_cons (pv 1) (pa_cons pe_bl (pa_cons (pe_make0 T.mk_Kept G_Kept_init hr_Kept_init rfl T.mg_Kept T.b_Kept_init .nil pass0) pa_nil))))))), ?_⟩
    obtain ⟨mvs, ⟨o, em, od⟩, iM⟩ := hM.ex
    obtain ⟨ps, rfl, pk⟩ := mk_refs (K := K) iM
    refine ⟨_, rfl, m, o, ps, _, rfl, em, od, pk, fun p hp => ?_⟩
    rw [merged_kv]
    have s := same_upd hp (.dK ((merged mk).map kvM))
    generalize hH0 : upd H p (.dK ((merged mk).map kvM)) = H0 at s
    have eP : H0 p = some (.dK ((merged mk).map kvM)) := by rw [← hH0]; exact upd_same
    refine ⟨_, rfl, fun x dx hx hdx ndx => ?_⟩
    refine ⟨x, dx, rfl, upd_same, fun d hd => ⟨rfl, ?_⟩⟩
    have z1 : Same H0 (upd H0 dx (.own x)) := same_upd hdx _
    have z2 : Same H0 (upd (upd H0 dx (.own x)) x (.ins T.c_Kept dx [])) := Kx.Same.own z1 hx _
    have hd0 : H0 d = none := z2.free hd
    have z3 : Same H0 (upd (upd (upd H0 dx (.own x)) x (.ins T.c_Kept dx [])) d (.dK [])) := z2.trans (same_upd hd _)
    have z4 : Same H0 (upd (upd (upd (upd H0 dx (.own x)) x (.ins T.c_Kept dx [])) d (.dK [])) x (.ins T.c_Kept dx [("rows", .ref d)])) := Kx.Same.own z3 hx _
    have ndx2 : d ≠ x := fun e => by subst e; rw [upd_same] at hd; cases hd
    have kH : KeptAt T.c_Kept ((merged mk).map (·.1)) (RForm (merged mk) true) H0 (upd (upd (upd (upd H0 dx (.own x)) x (.ins T.c_Kept dx [])) d (.dK [])) x (.ins T.c_Kept dx [("rows", .ref d)])) x :=
      ⟨dx, d, [], upd_same, by rw [upd_ne ndx2, upd_same], hd0, List.nodup_nil, fun kv m => absurd m (by simp)⟩
    have l20 : (merged mk).length ≤ 20 := by have := merged_len mk; omega
    exact ⟨p, merged mk, v, t, true, x, H0, rfl, eP, merged_nd mk, l20, hI.same s, hn, by omega, z4, kH, fun H' s' _ _ => q H' (s.trans s')⟩
end
end Kx
namespace Kx
open PySem PySem.Spec PyProof.Rows L2
section
variable {P : Program} {w : World} {K : PySem.W.Frag} {mg : Str → Option Value} {base : Heap}
set_option pp.maxSteps 900
/-! ### pairs of a family and a term -/
theorem lvL_mem {z : Str} : ∀ {l : List PV}, z ∈ lvL l ↔ ∃ t ∈ l, z ∈ lv t
  | [] => by simp [lvL]
  | a :: r => by simp [lvL, lvL_mem (l := r)]
theorem ok_lv : ∀ {n : Nat} {t : PV}, Ok n t → ∀ z ∈ lv t, z.length ≤ 100
  | n + 1, .str z, h, z', hz => by
    simp only [lv, List.mem_singleton] at hz
    subst hz; exact h
  | n + 1, .oth _, _, z', hz => by simp [lv] at hz
  | n + 1, .tup [], _, z', hz => by simp [lv] at hz
  | n + 1, .tup (_ :: r), h, z', hz => by
    simp only [lv] at hz
    obtain ⟨t, ht, hz⟩ := lvL_mem.mp hz
    exact ok_lv (h.2 t (List.mem_cons_of_mem _ ht)) z' hz
theorem IsL.of_mem {H : Hp} : ∀ {v : List V} {l : List PV}, IsL H v l → ∀ t ∈ l, ∃ x, Is H x t
  | _, _, .nil, t, h => by cases h
  | _, _, .cons a r, t, h => by
    rcases List.mem_cons.mp h with rfl | h
    · exact ⟨_, a⟩
    · exact IsL.of_mem r t h
theorem is_lv {H : Hp} : ∀ (n : Nat) (t : PV), dep t ≤ n → ∀ v, Is H v t → ∀ z ∈ lv t, sok z = true
  | 0, t, h, _, _, _, _ => absurd (dep_pos t) (by omega)
  | n + 1, .str z, _, v, hI, z', hz => by
    simp only [lv, List.mem_singleton] at hz
    subst hz
    cases hI
    assumption
  | n + 1, .oth _, _, v, hI, z', hz => by simp [lv] at hz
  | n + 1, .tup [], _, v, hI, z', hz => by simp [lv] at hz
  | n + 1, .tup (a :: r), h, v, hI, z', hz => by
    simp only [lv] at hz
    obtain ⟨t, ht, hz⟩ := lvL_mem.mp hz
    obtain ⟨_, vs, _, _, hL⟩ := hI.tup_inv
    have hm : t ∈ a :: r := List.mem_cons_of_mem _ ht
    obtain ⟨x, hx⟩ := hL.of_mem t hm
    have := depL_mem hm
    simp only [dep] at h
    exact is_lv n t (by omega) x hx z' hz
theorem Is.lv_ok {H : Hp} {v : V} {t : PV} (h : Is H v t) : ∀ z ∈ lv t, sok z = true := is_lv _ t (Nat.le_refl _) v h
/-- the makers and families of a table stand there -/
structure TabAt (H : Hp) (tv : V) (mk : List (Str × Int)) (F : List Str) : Prop where
  ex : ∃ (a m f : Addr) (x0 x3 : V), tv = .ref a ∧ TupF H a [x0, .ref m, .ref f, x3] ∧ MkAt H m mk ∧ TupF H f (F.map V.str) ∧ ∀ z ∈ F, sok z = true
theorem TabAt.same {H H' : Hp} {tv : V} {mk : List (Str × Int)} {F : List Str} (s : Same H H') (h : TabAt H tv mk F) : TabAt H' tv mk F := by
  obtain ⟨a, m, f, x0, x3, e0, e1, e2, e3, e4⟩ := h.ex
  exact ⟨a, m, f, x0, x3, e0, e1.same s, e2.same s, e3.same s, e4⟩
theorem kind_not {mk : List (Str × Int)} {F : List Str} {t : PV} (h : rowB 2 t = false) : kindB mk F t = false := by
  unfold kindB
  split
  · simp [rowB] at h
  · rfl
def spKind : Sp := fun vs H Q _ => ∃ (tv v : V) (t : PV) (mk : List (Str × Int)) (F : List Str), vs = [tv, v] ∧ TabAt H tv mk F ∧ MkG mk ∧ Is H v t ∧ Ok 30 t ∧ ∀ H', Same H H' → Q (.bl (kindB mk F t)) H'
theorem ok_is_kind (T : Txt K mg) (G_is_row : FnOk P w K mg base CX0 1 T.a_is_row T.d_is_row ["value", "many"] spRow) (G_is_term : FnOk P w K mg base CX0 33 T.a_is_term T.d_is_term ["makers", "value"] spTerm) (G_is_deeper : FnOk P w K mg base CX0 6 T.a_is_deeper T.d_is_deeper ["term", "most"] (spDeep 5)) (G_names_of : FnOk P w K mg base CX0 1 T.a_names_of T.d_names_of ["term"] (spNames 100)) (G_is_word : FnOk P w K mg base CX0 1 T.a_is_word T.d_is_word ["value"] spWord) : FnOk P w K mg base CX0 34 T.a_is_kind T.d_is_kind ["table", "value"] spKind := by
  refine T.F_is_kind.ok sc_is_kind (fun vs H Q E h => ?_) (fun cdv A outer s H vs Q E hr h => ?_)
  · obtain ⟨tv, v, t, mk, F, rfl, _⟩ := h; rfl
  · obtain ⟨tv, v, t, mk, F, rfl, hT, hM, hI, hO, q⟩ := h
    have hr_is_row := hr.mono (show 1 ≤ 33 by decide)
    have hr_is_term := hr
    have hr_is_deeper := hr.mono (show 6 ≤ 33 by decide)
    have hr_names_of := hr.mono (show 1 ≤ 33 by decide)
    have hr_is_word := hr.mono (show 1 ≤ 33 by decide)
    refine ⟨_, (pss_cons (ps_if (PW.pt (pw_or (pt_not (pt_val (pe_call G_is_row hr_is_row rfl T.m_is_row T.F_is_row.kp T.b_is_row .nil pass0 (pa_cons (pv 1) (pa_cons pe_int pa_nil))))) (pw_or1 (pt_cmpR (notInZ (u101 hr)) (pe_ix ix_tup (pv 1) pe_int (fun _ _ => rfl)) (pe_ix ix_tup (pv 0) pe_int (fun _ _ => rfl)) (by rfl))))) (pss_one (ps_ret pe_bl)) pss_nil)
    (pss_cons (ps_if (PW.pt (pw_or (pt_not (pt_val (pe_call G_is_term hr_is_term rfl T.m_is_term T.F_is_term.kp T.b_is_term .nil pass0 (pa_cons (pe_ix ix_tup (pv 0) pe_int (fun _ _ => rfl)) (pa_cons (pe_ix ix_tup (pv 1) pe_int (fun _ _ => rfl)) pa_nil))))) (pw_or1 (pt_val (pe_call G_is_deeper hr_is_deeper rfl T.m_is_deeper T.F_is_deeper.kp T.b_is_deeper .nil pass0 (pa_cons (pe_ix ix_tup (pv 1) pe_int (fun _ _ => rfl)) (pa_cons (pe_glob (by rfl) T.g_MOST_DEEP (show RelV (V.int 4) (.int 4 T.t_MOST_DEEP) from ⟨_, rfl⟩)) pa_nil))))))) (pss_one (ps_ret pe_bl)) pss_nil)
    (pss_cons (ps_for PassesOwn.never rfl (pi_list (pe_call G_names_of hr_names_of rfl T.m_names_of T.F_names_of.kp T.b_names_of .nil pass0 (pa_cons (pe_ix ix_tup (pv 1) pe_int (fun _ _ => rfl)) pa_nil))) (pg_name (i := 2) sc_is_kind.nd rfl (Or.inl rfl))
    (pss_one (ps_if (pt_not (pt_val (pe_call G_is_word hr_is_word rfl T.m_is_word T.F_is_word.kp T.b_is_word .nil pass0 (pa_cons (pv 2) pa_nil)))) (pss_one (ps_ret pe_bl)) pss_nil)))
    (pss_one (ps_ret pe_bl))))), ?_⟩
    have q0 := q H (.refl H)
    refine ⟨_, rfl, v, t, 2, rfl, hI, _, rfl, ?_⟩
    cases hb : rowB 2 t with
    | false =>
      rw [kind_not hb] at q0
      exact iteT (iteT q0)
    | true =>
    obtain ⟨a, x, rfl⟩ := two_inv hb
    obtain ⟨p, va, vx, rfl, ep, ia, ix⟩ := hI.two
    replace q : ∀ H', Same H H' → Q (.bl (inZ F a && (form (merged mk) true x && !deeper 4 x && (nms x).all wok))) H' := q
    replace q0 : Q (.bl (inZ F a && (form (merged mk) true x && !deeper 4 x && (nms x).all wok))) H := q0
    obtain ⟨tb, m, f, x0, x3, rfl, et, hm, ef, okF⟩ := hT.ex
    refine iteF ⟨_, rfl, p, _, _, _, rfl, rfl, ep.sq, atI_nat (j := 0) rfl, _, rfl, tb, _, _, _, rfl, rfl, et.sq, atI_nat (j := 2) rfl, f, a, F, rfl, ef.sq, okF, ia, _, rfl, ?_⟩
    cases hz : inZ F a with
    | false =>
      rw [hz] at q0
      exact iteT q0
    | true =>
    rw [hz] at q q0
    have ox : Ok 29 x := hO.mem (by simp)
    refine iteF ⟨_, rfl, tb, _, _, _, rfl, rfl, et.sq, atI_nat (j := 1) rfl, _, rfl, p, _, _, _, rfl, rfl, ep.sq, atI_nat (j := 1) rfl, m, mk, vx, x, rfl, hm, hM.l5, ix, Nat.le_trans ox.dep (by decide), fun H1 s1 => ⟨_, rfl, ?_⟩⟩
    have q1 := q H1 s1
    cases hf : form (merged mk) true x with
    | false =>
      rw [hf] at q1
      exact iteT q1
    | true =>
    rw [hf] at q q1
    have ep1 := ep.same s1
    refine iteF ⟨_, rfl, p, _, _, _, rfl, rfl, ep1.sq, atI_nat (j := 1) rfl, vx, x, 4, rfl, by decide, ix.same s1, form_tm x hf, fun H2 s2 => ⟨_, rfl, ?_⟩⟩
    have s12 := s1.trans s2
    have q2 := q H2 s12
    cases hd : deeper 4 x with
    | true =>
      rw [hd] at q2
      exact iteT q2
    | false =>
    rw [hd] at q
    have sm : Sm 4 x := form_sm (merged_row fun m hm => (hM.row m hm).2.2) hf hd
    have ep2 := ep1.same s2
    have c100 := sm.cnt4
    refine iteF ⟨_, rfl, p, _, _, _, rfl, rfl, ep2.sq, atI_nat (j := 1) rfl, vx, x, rfl, ix.same s12, sm.tm, c100, c100, fun l H3 s3 _ el => ⟨l, rfl, ⟨_, SqL.of el⟩, ?_⟩⟩
    have s13 := s12.trans s3
    replace q : ∀ H', Same H H' → Q (.bl ((nms x).all wok)) H' := q
    refine for_list (K := K) (a := l) (xs := (nms x).map V.str) (fun i σ H4 => ∃ y, σ = [some (.ref tb), some (.ref p), y] ∧ H4 = H3 ∧ ((nms x).take i).all wok = true) ?_ ?_ ?_ ?_
    · exact ⟨none, rfl, rfl, rfl⟩
    · rintro i σ H4 _ ⟨_, _, h4, _⟩
      rw [h4]; exact SqL.of el
    · rintro i y σ H4 hy ⟨y2, rfl, h4, hall⟩
      subst h4
      rw [List.getElem?_map] at hy
      obtain ⟨z, ez, rfl⟩ := Option.map_eq_some_iff.mp hy
      have mz := nms_mem.mp (List.mem_of_getElem? ez)
      refine ⟨_, rfl, .str z, .str z, 1, rfl, .str z (ix.lv_ok z mz), ok_lv ox z mz, _, rfl, ?_⟩
      cases hw : wok z with
      | false =>
        have e : wordB (.str z) = false := hw
        rw [e]
        have := q _ s13
        rw [not_all ez hw] at this
        exact iteT this
      | true =>
        have e : wordB (.str z) = true := hw
        rw [e]
        exact iteF ⟨_, rfl, rfl, take_all ez hall hw⟩
    · rintro σ H4 ⟨y2, rfl, h4, hall⟩
      subst h4
      rw [List.length_map, List.take_length] at hall
      have := q _ s13
      rw [hall] at this
      exact this
end
end Kx
namespace Kx
open PySem PySem.Spec PyProof.Rows L2
section
variable {P : Program} {w : World} {K : PySem.W.Frag} {mg : Str → Option Value} {base : Heap}
set_option pp.maxSteps 900
/-! ### names that are told -/
theorem dd_new : ∀ {l f : List Str}, l.Nodup → (∀ x ∈ l, x ∉ f) → dd f l = f ++ l
  | [], f, _, _ => by simp [dd]
  | x :: r, f, nd, h => by
    have hx := h x (List.mem_cons_self ..)
    have e : add1 f x = f ++ [x] := by simp [add1, hx]
    show dd (add1 f x) r = _
    rw [List.nodup_cons] at nd
    rw [e, dd_new nd.2 fun y hy => ?_]
    · simp
    · intro q
      rcases List.mem_append.mp q with q | q
      · exact h y (List.mem_cons_of_mem _ hy) q
      · rw [List.mem_singleton.mp q] at hy; exact nd.1 hy
theorem dd_nd : ∀ {ys f : List Str}, f.Nodup → (dd f ys).Nodup
  | [], f, h => h
  | y :: r, f, h => dd_nd (ys := r) (f := add1 f y) (by
    unfold add1
    split
    · exact h
    · rename_i n
      refine List.nodup_append.mpr ⟨h, by simp, fun a ha b hb e => ?_⟩
      rw [List.mem_singleton.mp hb] at e
      exact n (e ▸ ha))
theorem nms_nd (t : PV) : (nms t).Nodup := dd_nd List.nodup_nil
theorem dd_nms (f : List Str) (t : PV) : dd f (nms t) = addN f (nms t) := by
  rw [dd_eq, show dd [] (nms t) = nms t from (dd_new (nms_nd t) (fun _ _ q => by cases q)).trans (List.nil_append _)]
theorem dd_snoc' {f : List Str} {l : List Str} {j : Nat} {z : Str} (e : l[j]? = some z) : dd f (l.take (j + 1)) = add1 (dd f (l.take j)) z := by
  obtain ⟨hj, rfl⟩ := List.getElem?_eq_some_iff.mp e
  rw [List.take_succ_eq_append_getElem hj, dd_snoc]
theorem nmsL_snoc {f : List Str} {l : List PV} {j : Nat} {t : PV} (e : l[j]? = some t) : nmsL f (l.take (j + 1)) = addN (nmsL f (l.take j)) (nms t) := by
  obtain ⟨hj, rfl⟩ := List.getElem?_eq_some_iff.mp e
  unfold nmsL
  rw [List.take_succ_eq_append_getElem hj, List.foldl_append]
  rfl
theorem nmsL_len {l : List PV} (h : ∀ t ∈ l, cnt t ≤ 100) : ∀ {f : List Str}, (nmsL f l).length ≤ f.length + 100 * l.length := by
  induction l with
  | nil => intro f; simp [nmsL]
  | cons t r ih =>
    intro f
    have h1 := ih (fun x hx => h x (List.mem_cons_of_mem _ hx)) (f := addN f (nms t))
    have h2 := addN_len f (nms t)
    have h3 := nms_len t
    have h4 := h t (List.mem_cons_self ..)
    show (nmsL (addN f (nms t)) r).length ≤ _
    rw [List.length_cons]; omega
/-- parts that are pairs of a family and a term of few parts -/
def PsG (ps : List PV) : Prop := ps.length ≤ 3 ∧ ∀ p ∈ ps, ∃ a x, p = .tup [a, x] ∧ Sm 4 x
def spNamesIn : Sp := fun vs H Q _ => ∃ v ps, vs = [v] ∧ Is H v (.tup ps) ∧ PsG ps ∧ ∀ l H', Same H H' → H l = none → H' l = some (.lst ((told ps).map V.str)) → Q (.ref l) H'
theorem ok_names_in (T : Txt K mg) (G_names_of : FnOk P w K mg base CX0 1 T.a_names_of T.d_names_of ["term"] (spNames 100)) : FnOk P w K mg base CX0 2 T.a_names_in T.d_names_in ["kinds"] spNamesIn := by
  refine T.F_names_in.ok sc_names_in (fun vs H Q E h => ?_) (fun cdv A outer s H vs Q E hr h => ?_)
  · obtain ⟨v, ps, rfl, _⟩ := h; rfl
  · obtain ⟨v, ps, rfl, hI, hG, q⟩ := h
    have hr_names_of := hr
    refine ⟨_, (pss_cons (ps_set (i := 1) sc_names_in.nd rfl (Or.inl rfl) (pe_lst pa_nil))
    (pss_cons (ps_for PassesOwn.never rfl (pi_tup (pv 0)) (pg_tup rfl (pgs_cons (pg_name (i := 2) sc_names_in.nd rfl (Or.inl rfl)) (pgs_cons (pg_name (i := 3) sc_names_in.nd rfl (Or.inl rfl)) pgs_nil)))
    (pss_one (ps_for PassesOwn.never rfl (pi_list (pe_call G_names_of hr_names_of rfl T.m_names_of T.F_names_of.kp T.b_names_of .nil pass0 (pa_cons (pv 3) pa_nil))) (pg_name (i := 4) sc_names_in.nd rfl (Or.inl rfl))
    (pss_one (ps_if (pt_cmpR op_notIn_seq (pv 4) (pv 1) (by rfl)) (pss_one (ps_expr (pe_bm PySem.F.plainAttrs_list PySem.F.slot_list_append PySem.F.type_list_append mt_append (pv 1) (pa_cons (pv 4) pa_nil)))) pss_nil)))))
    (pss_one (ps_ret (pv 1))))), ?_⟩
    obtain ⟨p, us, rfl, ep, hL⟩ := hI.tup_inv
    have hlen := hL.len
    refine ⟨(by show 0 ≤ sizeLine; decide), fun fa hf => ?_⟩
    have s0 := same_upd hf (.lst [])
    refine ⟨_, rfl, p, rfl, ⟨_, (ep.same s0).sq⟩, ?_⟩
    refine for_tup (K := K) (a := p) (xs := us) (fun i σ H2 => ∃ y2 y3 y4, σ = [some (.ref p), some (.ref fa), y2, y3, y4] ∧ Same H H2 ∧ H2 fa = some (.lst ((nmsL [] ((ps.map snd2).take i)).map V.str))) ?_ ?_ ?_ ?_
    · exact ⟨none, none, none, rfl, s0, upd_same⟩
    · exact fun i σ H2 _ ⟨_, _, _, _, sm, _⟩ => (ep.same sm).sq
    · rintro i x σ H2 hx ⟨y2, y3, y4, rfl, sm, ef⟩
      obtain ⟨t', et, it⟩ := hL.get hx
      have hm := List.mem_of_getElem? et
      obtain ⟨a, x', rfl, hS⟩ := hG.2 t' hm
      obtain ⟨p2, va, vx, rfl, ep2, ia, ix⟩ := (it.same sm).two
      have c100 := hS.cnt4
      have es2 : (ps.map snd2)[i]? = some x' := by rw [List.getElem?_map, et]; rfl
      refine ⟨p2, _, rfl, ep2.sq, rfl, _, _, rfl, _, _, rfl, rfl, _, rfl, vx, x', rfl, ix, hS.tm, c100, c100, fun l H3 s3 ln el => ⟨l, rfl, ⟨_, SqL.of el⟩, ?_⟩⟩
      have sm3 := sm.trans s3
      have ef3 := s3 _ _ ef
      have nl : l ≠ fa := (ne_of_none ef ln).symm
      have lenF : (nmsL [] ((ps.map snd2).take i)).length ≤ 300 := by
        have := nmsL_len (l := (ps.map snd2).take i) (fun t ht => by
          obtain ⟨q, hq, rfl⟩ := List.mem_map.mp (List.mem_of_mem_take ht)
          obtain ⟨a, x, rfl, h⟩ := hG.2 q hq
          exact h.cnt4) (f := [])
        have l1 := hG.1
        rw [List.length_take, List.length_map] at this
        simp only [List.length_nil] at this
        omega
      have lenN : (nms x').length ≤ 100 := Nat.le_trans (nms_len x') c100
      refine for_list (K := K) (a := l) (xs := (nms x').map V.str) (fun j σ H4 => ∃ y4, σ = [some (.ref p), some (.ref fa), some va, some vx, y4] ∧ Same H H4 ∧ H4 l = some (.lst ((nms x').map V.str)) ∧ H4 fa = some (.lst ((dd (nmsL [] ((ps.map snd2).take i)) ((nms x').take j)).map V.str))) ?_ ?_ ?_ ?_
      · exact ⟨_, rfl, sm3, el, ef3⟩
      · exact fun j σ H4 _ ⟨_, _, _, el, _⟩ => SqL.of el
      · rintro j y σ H4 hy ⟨y4, rfl, sm4, el4, ef4⟩
        rw [List.getElem?_map] at hy
        obtain ⟨z, ez, rfl⟩ := Option.map_eq_some_iff.mp hy
        refine ⟨_, rfl, _, rfl, fa, _, rfl, .inl (SqL.of ef4), rfl, flat_str _, _, rfl, ?_⟩
        rw [inV_str]
        have lenD := dd_len ((nms x').take j) (nmsL [] ((ps.map snd2).take i))
        rw [List.length_take] at lenD
        refine ite2 (fun c2 => ?_) (fun c2 => ?_)
        · have nz : z ∉ dd (nmsL [] ((ps.map snd2).take i)) ((nms x').take j) := by simpa using c2
          refine ⟨_, rfl, .inl ⟨rfl, _, SqL.of ef4⟩, _, rfl, fa, _, _, rfl, rfl, ef4, ?_, ?_⟩
          · rw [List.length_map]; exact small1000 (by omega)
          · refine ⟨_, rfl, Kx.Same.own sm4 hf _, by rw [upd_ne nl]; exact el4, ?_⟩
            rw [upd_same, dd_snoc' ez, add1, if_neg nz, List.map_append]; rfl
        · have nz : z ∈ dd (nmsL [] ((ps.map snd2).take i)) ((nms x').take j) := by simpa using c2
          refine ⟨_, rfl, sm4, el4, ?_⟩
          rw [dd_snoc' ez, add1, if_pos nz]; exact ef4
      · rintro σ H4 ⟨y4, rfl, sm4, el4, ef4⟩
        refine ⟨_, _, _, rfl, sm4, ?_⟩
        rw [List.length_map, List.take_length, dd_nms] at ef4
        rw [nmsL_snoc es2]; exact ef4
    · rintro σ H2 ⟨y2, y3, y4, rfl, sm, ef⟩
      refine ⟨_, rfl, q fa H2 sm hf ?_⟩
      rw [hlen, show (ps.map snd2).take ps.length = ps.map snd2 by rw [← List.length_map (f := snd2), List.take_length]] at ef
      exact ef
end
end Kx
namespace Kx
open PySem PySem.Spec PyProof.Rows L2
section
variable {P : Program} {w : World} {K : PySem.W.Frag} {mg : Str → Option Value} {base : Heap}
set_option pp.maxSteps 900
/-! ### constructors -/
theorem told_len {ps : List PV} (h : PsG ps) : (told ps).length ≤ 300 := by
  have := nmsL_len (l := ps.map snd2) (fun t ht => by
    obtain ⟨q, hq, rfl⟩ := List.mem_map.mp ht
    obtain ⟨a, x, rfl, h⟩ := h.2 q hq
    exact h.cnt4) (f := [])
  have l1 := h.1
  rw [List.length_map] at this
  simp only [List.length_nil] at this
  unfold told
  omega
def spTold : Sp := fun vs H Q _ => ∃ v ps u ix, vs = [v, u] ∧ Is H v (.tup ps) ∧ PsG ps ∧ Is H u ix ∧ Sm 4 ix ∧ ∀ H', Same H H' → Q (.bl (toldB ps ix)) H'
theorem ok_are_names_told (T : Txt K mg) (G_names_in : FnOk P w K mg base CX0 2 T.a_names_in T.d_names_in ["kinds"] spNamesIn) (G_names_of : FnOk P w K mg base CX0 1 T.a_names_of T.d_names_of ["term"] (spNames 100)) : FnOk P w K mg base CX0 3 T.a_are_names_told T.d_are_names_told ["parts", "index"] spTold := by
  refine T.F_are_names_told.ok sc_are_names_told (fun vs H Q E h => ?_) (fun cdv A outer s H vs Q E hr h => ?_)
  · obtain ⟨v, ps, u, ix, rfl, _⟩ := h; rfl
  · obtain ⟨v, ps, u, ix, rfl, hI, hG, hX, hS, q⟩ := h
    have hr_names_in := hr
    have hr_names_of : Room 1 _ := hr.mono (by decide)
    refine ⟨_, (pss_cons (ps_set (i := 2) sc_are_names_told.nd rfl (Or.inl rfl) (pe_call G_names_in hr_names_in rfl T.m_names_in T.F_names_in.kp T.b_names_in .nil pass0 (pa_cons (pv 0) pa_nil)))
    (pss_cons (ps_for PassesOwn.never rfl (pi_list (pe_call G_names_of hr_names_of rfl T.m_names_of T.F_names_of.kp T.b_names_of .nil pass0 (pa_cons (pv 1) pa_nil))) (pg_name (i := 3) sc_are_names_told.nd rfl (Or.inl rfl))
    (pss_one (ps_if (pt_cmpR op_notIn_seq (pv 3) (pv 2) (by rfl)) (pss_one (ps_ret pe_bl)) pss_nil)))
    (pss_one (ps_ret (pe_cmpR op_le (pe_callB call_len_seq (by rfl) T.z_len (by decide +kernel) (pa_cons (pv 2) pa_nil)) (pe_glob (by rfl) T.g_MOST_NAMES (show RelV (V.int 4) (.int 4 T.t_MOST_NAMES) from ⟨_, rfl⟩)) (nomark _)))))), ?_⟩
    have c100 := hS.cnt4
    refine ⟨_, rfl, v, ps, rfl, hI, hG, fun l H1 s1 ln el => ?_⟩
    refine ⟨_, rfl, u, ix, rfl, hX.same s1, hS.tm, c100, c100, fun l2 H2 s2 l2n el2 => ⟨l2, rfl, ⟨_, SqL.of el2⟩, ?_⟩⟩
    have s12 := s1.trans s2
    have el' := s2 _ _ el
    refine for_list (K := K) (a := l2) (xs := (nms ix).map V.str) (fun i σ H3 => ∃ y, σ = [some v, some u, some (.ref l), y] ∧ H3 = H2 ∧ ((nms ix).take i).all (fun z => decide (z ∈ told ps)) = true) ?_ ?_ ?_ ?_
    · exact ⟨none, rfl, rfl, rfl⟩
    · rintro i σ H3 _ ⟨_, _, h4, _⟩
      rw [h4]; exact SqL.of el2
    · rintro i y σ H3 hy ⟨y2, rfl, h4, hall⟩
      subst h4
      rw [List.getElem?_map] at hy
      obtain ⟨z, ez, rfl⟩ := Option.map_eq_some_iff.mp hy
      refine ⟨_, rfl, _, rfl, l, _, rfl, .inl (SqL.of el'), rfl, flat_str _, _, rfl, ?_⟩
      rw [inV_str]
      by_cases hz : z ∈ told ps
      · rw [decide_eq_true hz]
        exact iteF ⟨_, rfl, rfl, take_all ez hall (by simpa using hz)⟩
      · rw [decide_eq_false hz]
        have := q _ s12
        unfold toldB at this
        rw [not_all (p := fun z => decide (z ∈ told ps)) ez (by simpa using hz)] at this
        exact iteT this
    · rintro σ H3 ⟨y2, rfl, h4, hall⟩
      subst h4
      rw [List.length_map, List.take_length] at hall
      have := q _ s12
      unfold toldB at this
      rw [hall] at this
      refine ⟨_, rfl, l, _, rfl, .inl (SqL.of el'), _, _, rfl, rfl, ?_⟩
      show Q (.bl (decide ((((told ps).map V.str).length : Int) ≤ 4))) _
      rw [show decide ((((told ps).map V.str).length : Int) ≤ 4) = decide ((told ps).length ≤ 4) from decide_eq_decide.mpr (by rw [List.length_map]; omega)]
      exact this
theorem strs_of {H : Hp} : ∀ {r : List PV} {vs : List V}, IsL H vs r → r.all isStr = true → vs = (r.map txt).map V.str
  | [], _, .nil, _ => rfl
  | .str z :: r, _, .cons h t, e => by
    simp only [List.all_cons, Bool.and_eq_true] at e
    cases h.str_inv
    rw [List.map_cons, List.map_cons, ← strs_of t e.2]
    rfl
  | .oth _ :: r, _, .cons h t, e => by simp [isStr] at e
  | .tup _ :: r, _, .cons h t, e => by simp [isStr] at e
def spFlat : Sp := fun vs H Q _ => ∃ u ix, vs = [u] ∧ Is H u ix ∧ Sm 4 ix ∧ ∀ H', Same H H' → Q (.bl (flat ix)) H'
theorem ok_is_flat (T : Txt K mg)  : FnOk P w K mg base CX0 1 T.a_is_flat T.d_is_flat ["index"] spFlat := by
  refine T.F_is_flat.ok sc_is_flat (fun vs H Q E h => ?_) (fun cdv A outer s H vs Q E hr h => ?_)
  · obtain ⟨u, ix, rfl, _⟩ := h; rfl
  · obtain ⟨u, ix, rfl, hX, hS, q⟩ := h
    refine ⟨_, (pss_cons (ps_if (pt_val (pe_callB call_isi (by rfl) T.z_isinstance (by decide +kernel) (pa_cons (pv 0) (pa_cons (pe_bltn rfl T.z_str (by decide +kernel) (show RelV (V.ty "str") (Value.type "str") from rfl)) pa_nil)))) (pss_one (ps_ret pe_bl)) pss_nil)
    (pss_cons (ps_for PassesOwn.never rfl (pi_tup (pe_slice sl_tup (pv 0) (po_some pe_int) po_none)) (pg_name (i := 1) sc_is_flat.nd rfl (Or.inl rfl))
    (pss_one (ps_if (pt_not (pt_val (pe_callB call_isi (by rfl) T.z_isinstance (by decide +kernel) (pa_cons (pv 1) (pa_cons (pe_bltn rfl T.z_str (by decide +kernel) (show RelV (V.ty "str") (Value.type "str") from rfl)) pa_nil))))) (pss_one (ps_ret pe_bl)) pss_nil)))
    (pss_one (ps_ret (pe_cmpR op_eq (pe_callB cr_lenZ (by rfl) T.z_len (by decide +kernel) (pa_cons (pe_callTy (cr_setZT rfl) (by rfl) T.z_set (by decide +kernel) (pa_cons (pe_slice sl_tup (pv 0) (po_some pe_int) po_none) pa_nil)) pa_nil)) (pe_op op_sub (pe_callB call_len_seq (by rfl) T.z_len (by decide +kernel) (pa_cons (pv 0) pa_nil)) pe_int) (nomark _)))))), ?_⟩
    obtain ⟨ut, ty, kt⟩ := hX.ty (K := K)
    refine ⟨_, rfl, _, _, ut, _, _, rfl, .ty _, ty, kit_str kt, _, rfl, ?_⟩
    cases hs : isStr ix with
    | true =>
      cases ix with
      | str z => exact iteT (q H (.refl H))
      | oth _ => cases hs
      | tup _ => cases hs
    | false =>
    refine iteF ?_
    obtain ⟨a, w0, vs, ts, rfl, rfl, ea, hL, hTs⟩ := tm_tup_inv hX hS.tm hs
    have hlen := hL.len
    have l2 : ts.length ≤ 2 := hS.1
    refine ⟨_, rfl, _, rfl, a, _, rfl, ea.sq, slice1, fun p1 hp1 => ?_⟩
    rw [cut1]
    have s1 := same_upd hp1 (.tup vs)
    refine ⟨p1, rfl, ⟨_, .inl (.inl upd_same)⟩, ?_⟩
    replace q : ∀ H', Same H H' → Q (.bl (ts.all isStr && decide ((ts.map txt).Nodup))) H' := q
    refine for_tup (K := K) (a := p1) (xs := vs) (fun i σ H2 => ∃ y, σ = [some (.ref a), y] ∧ H2 = upd H p1 (.tup vs) ∧ (ts.take i).all isStr = true) ?_ ?_ ?_ ?_
    · exact ⟨none, rfl, rfl, rfl⟩
    · rintro i σ H2 _ ⟨_, _, h4, _⟩
      rw [h4]; exact .inl (.inl upd_same)
    · rintro i x σ H2 hx ⟨y, rfl, h4, hall⟩
      subst h4
      obtain ⟨t', et, it⟩ := hL.get hx
      obtain ⟨u2, ty2, kt2⟩ := (it.same s1).ty (K := K)
      refine ⟨_, rfl, _, _, u2, _, _, rfl, .ty _, ty2, kit_str kt2, _, rfl, ?_⟩
      cases h2 : isStr t' with
      | true => exact iteF ⟨_, rfl, rfl, take_all et hall h2⟩
      | false =>
        have := q _ s1
        rw [not_all et h2] at this
        exact iteT this
    · rintro σ H2 ⟨y, rfl, h4, hall⟩
      subst h4
      rw [hlen, List.take_length] at hall
      rw [hall] at q
      have ev := strs_of hL hall
      refine ⟨_, rfl, _, rfl, a, _, rfl, (ea.same s1).sq, slice1, fun p2 hp2 => ?_⟩
      rw [cut1]
      have s2 := same_upd hp2 (.tup vs)
      refine ⟨p2, ts.map txt, rfl, .inl (.inl (by rw [upd_same, ev])), by rw [List.length_map]; omega, fun p3 zs hp3 nd m le => ?_⟩
      have s3 := same_upd hp3 (ZO P w p3 zs)
      rw [List.length_map] at le
      refine ⟨p3, zs, rfl, upd_same, by omega, _, rfl, a, _, rfl, .inr ((ea.same s1).same (s2.trans s3)).sq, _, _, rfl, rfl, rfl, ?_⟩
      have e1 : decide (V.int (zs.length : Int) = V.int (((V.str w0 :: vs).length : Int) - 1)) = decide ((ts.map txt).Nodup) := by
        rw [← set_len nd m (by rw [List.length_map]; exact le), dec_int, Bool.eq_iff_iff]
        simp only [beq_iff_eq, decide_eq_true_eq, List.length_cons, List.length_map]
        omega
      show Q (.bl (decide (V.int (zs.length : Int) = V.int (((V.str w0 :: vs).length : Int) - 1)))) _
      rw [e1]
      exact q _ ((s1.trans s2).trans s3)
theorem kind_sm {mk : List (Str × Int)} {F : List Str} (G : MkG mk) {t : PV} (h : kindB mk F t = true) : ∃ a x, t = .tup [a, x] ∧ Sm 4 x := by
  unfold kindB at h
  split at h
  · rename_i a x
    simp only [Bool.and_eq_true, Bool.not_eq_true'] at h
    exact ⟨a, x, rfl, form_sm (merged_row fun m hm => (G.row m hm).2.2) h.2.1.1 h.2.1.2⟩
  · cases h
theorem four_inv {t : PV} (h : rowB 4 t = true) : ∃ a b c d, t = .tup [a, b, c, d] := by
  cases t with
  | str _ => cases h
  | oth _ => cases h
  | tup l =>
    match l, h with
    | [a, b, c, d], _ => exact ⟨a, b, c, d, rfl⟩
    | [], h => simp [rowB] at h
    | [_], h => simp [rowB] at h
    | [_, _], h => simp [rowB] at h
    | [_, _, _], h => simp [rowB] at h
    | _ :: _ :: _ :: _ :: _ :: _, h => simp [rowB] at h
theorem Is.four {H : Hp} {v : V} {a b c d : PV} (h : Is H v (.tup [a, b, c, d])) : ∃ p x y z w, v = .ref p ∧ TupF H p [x, y, z, w] ∧ Is H x a ∧ Is H y b ∧ Is H z c ∧ Is H w d := by
  obtain ⟨p, vs, rfl, e, hL⟩ := h.tup_inv
  cases hL with
  | cons h1 r => cases r with
    | cons h2 r => cases r with
      | cons h3 r => cases r with
        | cons h4 r => cases r; exact ⟨p, _, _, _, _, rfl, e, h1, h2, h3, h4⟩
theorem con_not {mk : List (Str × Int)} {F : List Str} {t : PV} (h : rowB 4 t = false) : conB mk F t = false := by
  unfold conB
  split
  · simp [rowB] at h
  · rfl
def spCon : Sp := fun vs H Q _ => ∃ (tv v : V) (t : PV) (mk : List (Str × Int)) (F : List Str), vs = [tv, v] ∧ TabAt H tv mk F ∧ MkG mk ∧ Is H v t ∧ Ok 30 t ∧ ∀ H', Same H H' → Q (.bl (conB mk F t)) H'
theorem ok_is_constructor (T : Txt K mg) (G_is_row : FnOk P w K mg base CX0 1 T.a_is_row T.d_is_row ["value", "many"] spRow) (G_is_word : FnOk P w K mg base CX0 1 T.a_is_word T.d_is_word ["value"] spWord) (G_is_kind : FnOk P w K mg base CX0 34 T.a_is_kind T.d_is_kind ["table", "value"] spKind) (G_is_flat : FnOk P w K mg base CX0 1 T.a_is_flat T.d_is_flat ["index"] spFlat) (G_are_names_told : FnOk P w K mg base CX0 3 T.a_are_names_told T.d_are_names_told ["parts", "index"] spTold) : FnOk P w K mg base CX0 35 T.a_is_constructor T.d_is_constructor ["table", "value"] spCon := by
  refine T.F_is_constructor.ok sc_is_constructor (fun vs H Q E h => ?_) (fun cdv A outer s H vs Q E hr h => ?_)
  · obtain ⟨tv, v, t, mk, F, rfl, _⟩ := h; rfl
  · obtain ⟨tv, v, t, mk, F, rfl, hT, hM, hI, hO, q⟩ := h
    have hr_is_row := hr.mono (show 1 ≤ 34 by decide)
    have hr_is_word := hr.mono (show 1 ≤ 34 by decide)
    have hr_is_kind := hr
    have hr_is_flat := hr.mono (show 1 ≤ 34 by decide)
    have hr_are_names_told := hr.mono (show 3 ≤ 34 by decide)
    refine ⟨_, (pss_cons (ps_if (PW.pt (pw_or (pt_not (pt_val (pe_call G_is_row hr_is_row rfl T.m_is_row T.F_is_row.kp T.b_is_row .nil pass0 (pa_cons (pv 1) (pa_cons pe_int pa_nil))))) (pw_or1 (pt_not (pt_val (pe_call G_is_word hr_is_word rfl T.m_is_word T.F_is_word.kp T.b_is_word .nil pass0 (pa_cons (pe_ix ix_tup (pv 1) pe_int (fun _ _ => rfl)) pa_nil))))))) (pss_one (ps_ret pe_bl)) pss_nil)
    (pss_cons (ps_asg (pv 1) (pg_tup rfl (pgs_cons (pg_name (i := 2) sc_is_constructor.nd rfl (Or.inl rfl)) (pgs_cons (pg_name (i := 3) sc_is_constructor.nd rfl (Or.inl rfl)) (pgs_cons (pg_name (i := 4) sc_is_constructor.nd rfl (Or.inl rfl)) (pgs_cons (pg_name (i := 5) sc_is_constructor.nd rfl (Or.inl rfl)) pgs_nil))))))
    (pss_cons (ps_if (PW.pt (pw_or (pt_not (pt_val (pe_callB call_isi (by rfl) T.z_isinstance (by decide +kernel) (pa_cons (pv 3) (pa_cons (pe_bltn rfl T.z_tuple (by decide +kernel) (show RelV (V.ty "tuple") (Value.type "tuple") from rfl)) pa_nil))))) (pw_or1 (pt_cmpR op_gt (pe_callB call_len_seq (by rfl) T.z_len (by decide +kernel) (pa_cons (pv 3) pa_nil)) (pe_glob (by rfl) T.g_MOST_PARTS (show RelV (V.int 3) (.int 3 T.t_MOST_PARTS) from ⟨_, rfl⟩)) (nomark _))))) (pss_one (ps_ret pe_bl)) pss_nil)
    (pss_cons (ps_for PassesOwn.never rfl (pi_tup (pe_tupG (StX.pa_star (pv 3) (pa_cons (pe_tupG (pa_cons (pv 4) (pa_cons (pv 5) pa_nil))) pa_nil) (by rfl)))) (pg_name (i := 6) sc_is_constructor.nd rfl (Or.inl rfl))
    (pss_one (ps_if (pt_not (pt_val (pe_call G_is_kind hr_is_kind rfl T.m_is_kind T.F_is_kind.kp T.b_is_kind .nil pass0 (pa_cons (pv 0) (pa_cons (pv 6) pa_nil))))) (pss_one (ps_ret pe_bl)) pss_nil)))
    (pss_one (ps_ret (pe_and (pe_call G_is_flat hr_is_flat rfl T.m_is_flat T.F_is_flat.kp T.b_is_flat .nil pass0 (pa_cons (pv 5) pa_nil)) (pe_one (pe_call G_are_names_told hr_are_names_told rfl T.m_are_names_told T.F_are_names_told.kp T.b_are_names_told .nil pass0 (pa_cons (pv 3) (pa_cons (pv 5) pa_nil))))))))))), ?_⟩
    have q0 := q H (.refl H)
    refine ⟨_, rfl, v, t, 4, rfl, hI, _, rfl, ?_⟩
    cases hb : rowB 4 t with
    | false =>
      rw [con_not hb] at q0
      exact iteT (iteT q0)
    | true =>
    obtain ⟨cw, cp, cf, cx, rfl⟩ := four_inv hb
    obtain ⟨p, vw, vp, vf, vx, rfl, ep, iw, ip, iF, ix⟩ := hI.four
    refine iteF ⟨_, rfl, p, _, _, _, rfl, rfl, ep.sq, atI_nat (j := 0) rfl, vw, cw, 29, rfl, iw, hO.mem (by simp), _, rfl, ?_⟩
    have noW : wordB cw = false → conB mk F (.tup [cw, cp, cf, cx]) = false := fun h => by
      cases cp <;> simp [conB, h]
    cases hw : wordB cw with
    | false =>
      rw [noW hw] at q0
      exact iteT q0
    | true =>
    refine iteF ?_
    obtain ⟨ut, ty, kt⟩ := ip.ty (K := K)
    refine ⟨_, rfl, p, _, rfl, ep.sq, rfl, _, _, rfl, _, _, rfl, _, _, rfl, _, _, rfl, rfl, ?_⟩
    refine ⟨_, rfl, _, _, ut, _, _, rfl, .ty _, ty, kit_tup kt, _, rfl, ?_⟩
    cases cp with
    | str _ => exact iteT (iteT q0)
    | oth _ => exact iteT (iteT q0)
    | tup ps =>
    obtain ⟨pp, pus, rfl, epp, hL⟩ := ip.tup_inv
    have hlen := hL.len
    replace q : ∀ H', Same H H' → Q (.bl (wordB cw && (decide (ps.length ≤ 3) && (ps.all (kindB mk F) && kindB mk F (.tup [cf, cx]) && (flat cx && toldB ps cx))))) H' := q
    rw [hw] at q
    refine iteF ⟨_, rfl, pp, pus, rfl, .inr epp.sq, _, _, rfl, rfl, _, rfl, ite2 (fun c1 => ?_) (fun c1 => ?_)⟩
    · have e1 : decide (ps.length ≤ 3) = false := decide_eq_false fun h => by
        have := of_decide_eq_true c1
        omega
      have := q H (.refl H)
      rw [e1] at this
      exact this
    have h3 : ps.length ≤ 3 := Nat.not_lt.mp fun h => c1 (decide_eq_true (by omega))
    rw [decide_eq_true h3] at q
    have okp : Ok 29 (.tup ps) := hO.mem (by simp)
    refine ⟨_, rfl, pp, pus, rfl, .inl epp.sq, _, rfl, _, rfl, (by show 2 ≤ sizeLine; decide), fun k2 H2 hk s2 e2 => ⟨?_, fun l H3 hl s3 e3 => ⟨l, rfl, ⟨_, e3.sq⟩, ?_⟩⟩⟩
    · rw [List.length_append, List.length_singleton]; exact Nat.le_of_lt (small1000 (by omega))
    have s23 := s2.trans s3
    have hL3 : IsL H3 (pus ++ [.ref k2]) (ps ++ [.tup [cf, cx]]) := (hL.same s23).append (.cons (.tup (e2.same s3) (.cons (iF.same s23) (.cons (ix.same s23) .nil))) .nil)
    have oall : ∀ t' ∈ ps ++ [.tup [cf, cx]], Ok 30 t' := fun t' ht => by
      rcases List.mem_append.mp ht with h | h
      · exact (okp.mem h).mono (by decide)
      · rw [List.mem_singleton.mp h]
        refine ⟨by simp, fun t ht => ?_⟩
        simp only [List.mem_cons, List.not_mem_nil, or_false] at ht
        rcases ht with rfl | rfl <;> exact hO.mem (by simp)
    have e5 : (ps ++ [PV.tup [cf, cx]]).all (kindB mk F) = (ps.all (kindB mk F) && kindB mk F (.tup [cf, cx])) := by
      rw [List.all_append]; simp
    rw [← e5] at q
    generalize hts : ps ++ [PV.tup [cf, cx]] = ts at hL3 oall q e5
    have hlen3 := hL3.len
    refine for_tup (K := K) (a := l) (xs := pus ++ [.ref k2]) (fun i σ H4 => ∃ y, σ = [some tv, some (.ref p), some vw, some (.ref pp), some vf, some vx, y] ∧ Same H3 H4 ∧ (ts.take i).all (kindB mk F) = true) ?_ ?_ ?_ ?_
    · exact ⟨none, rfl, .refl _, rfl⟩
    · exact fun i σ H4 _ ⟨_, _, sm, _⟩ => (e3.same sm).sq
    · rintro i x σ H4 hx ⟨y, rfl, sm, hall⟩
      obtain ⟨t', et, it⟩ := hL3.get hx
      have s4 := s23.trans sm
      refine ⟨_, rfl, _, rfl, tv, x, t', mk, F, rfl, hT.same s4, hM, it.same sm, oall t' (List.mem_of_getElem? et), fun H5 s5 => ⟨_, rfl, ?_⟩⟩
      cases hk2 : kindB mk F t' with
      | true => exact iteF ⟨_, rfl, sm.trans s5, take_all et hall hk2⟩
      | false =>
        have := q H5 (s4.trans s5)
        rw [not_all et hk2] at this
        exact iteT this
    · rintro σ H4 ⟨y, rfl, sm, hall⟩
      rw [hlen3, List.take_length] at hall
      rw [hall] at q e5
      have e6 := e5.symm
      simp only [Bool.and_eq_true] at e6
      have s4 := s23.trans sm
      obtain ⟨_, _, e7, smx⟩ := kind_sm hM e6.2
      cases e7
      have G : PsG ps := ⟨h3, fun t ht => kind_sm hM (List.all_eq_true.mp e6.1 t ht)⟩
      refine ⟨_, rfl, vx, _, rfl, ix.same s4, smx, fun H5 s5 => ⟨_, rfl, ?_⟩⟩
      cases hfl : flat cx with
      | false =>
        have := q H5 (s4.trans s5)
        rw [hfl] at this
        exact iteF this
      | true =>
        rw [hfl] at q
        refine iteT ⟨_, rfl, _, rfl, .ref pp, ps, vx, cx, rfl, ip.same (s4.trans s5), G, ix.same (s4.trans s5), smx, fun H6 s6 => ?_⟩
        exact q H6 ((s4.trans s5).trans s6)
def spCons : Sp := fun vs H Q _ => ∃ (tv : V) (t : PV) (mk : List (Str × Int)) (F : List Str), vs = [tv] ∧ TabAt H tv mk F ∧ MkG mk ∧ (∃ a x0 x1 x2 x3, tv = .ref a ∧ TupF H a [x0, x1, x2, x3] ∧ Is H x3 t) ∧ Ok 31 t ∧ ∀ H', Same H H' → Q (.bl (csB (conB mk F) t)) H'
theorem ok_are_constructors (T : Txt K mg) (G_is_constructor : FnOk P w K mg base CX0 35 T.a_is_constructor T.d_is_constructor ["table", "value"] spCon) : FnOk P w K mg base CX0 36 T.a_are_constructors T.d_are_constructors ["table"] spCons := by
  refine T.F_are_constructors.ok sc_are_constructors (fun vs H Q E h => ?_) (fun cdv A outer s H vs Q E hr h => ?_)
  · obtain ⟨tv, t, mk, F, rfl, _⟩ := h; rfl
  · obtain ⟨tv, t, mk, F, rfl, hT, hM, ⟨a, x0, x1, x2, x3, rfl, ea, hI⟩, hO, q⟩ := h
    have hr_is_constructor := hr
    refine ⟨_, (pss_cons (ps_set (i := 1) sc_are_constructors.nd rfl (Or.inl rfl) (pe_ix ix_tup (pv 0) pe_int (fun _ _ => rfl)))
    (pss_cons (ps_if (PW.pt (pw_or (pt_not (pt_val (pe_callB call_isi (by rfl) T.z_isinstance (by decide +kernel) (pa_cons (pv 1) (pa_cons (pe_bltn rfl T.z_tuple (by decide +kernel) (show RelV (V.ty "tuple") (Value.type "tuple") from rfl)) pa_nil))))) (pw_or1 (pt_cmpR op_gt (pe_callB call_len_seq (by rfl) T.z_len (by decide +kernel) (pa_cons (pv 1) pa_nil)) (pe_glob (by rfl) T.g_MOST_CONSTRUCTORS (show RelV (V.int 16) (.int 16 T.t_MOST_CONSTRUCTORS) from ⟨_, rfl⟩)) (nomark _))))) (pss_one (ps_ret pe_bl)) pss_nil)
    (pss_cons (ps_for PassesOwn.never rfl (pi_tup (pv 1)) (pg_name (i := 2) sc_are_constructors.nd rfl (Or.inl rfl))
    (pss_one (ps_if (pt_not (pt_val (pe_call G_is_constructor hr_is_constructor rfl T.m_is_constructor T.F_is_constructor.kp T.b_is_constructor .nil pass0 (pa_cons (pv 0) (pa_cons (pv 2) pa_nil))))) (pss_one (ps_ret pe_bl)) pss_nil)))
    (pss_one (ps_ret pe_bl))))), ?_⟩
    have q0 := q H (.refl H)
    refine ⟨_, rfl, a, _, _, _, rfl, rfl, ea.sq, atI_nat (j := 3) rfl, ?_⟩
    obtain ⟨ut, ty, kt⟩ := hI.ty (K := K)
    refine ⟨_, rfl, _, _, ut, _, _, rfl, .ty _, ty, kit_tup kt, _, rfl, ?_⟩
    cases t with
    | str _ => exact iteT (iteT q0)
    | oth _ => exact iteT (iteT q0)
    | tup ts =>
    obtain ⟨pp, pus, rfl, epp, hL⟩ := hI.tup_inv
    have hlen := hL.len
    replace q : ∀ H', Same H H' → Q (.bl (decide (ts.length ≤ 16) && ts.all (conB mk F))) H' := q
    refine iteF ⟨_, rfl, pp, pus, rfl, .inr epp.sq, _, _, rfl, rfl, _, rfl, ite2 (fun c1 => ?_) (fun c1 => ?_)⟩
    · have e1 : decide (ts.length ≤ 16) = false := decide_eq_false fun h => by
        have := of_decide_eq_true c1
        omega
      have := q H (.refl H)
      rw [e1] at this
      exact this
    have h3 : ts.length ≤ 16 := Nat.not_lt.mp fun h => c1 (decide_eq_true (by omega))
    rw [decide_eq_true h3] at q
    refine ⟨_, rfl, pp, rfl, ⟨_, epp.sq⟩, ?_⟩
    refine for_tup (K := K) (a := pp) (xs := pus) (fun i σ H4 => ∃ y, σ = [some (.ref a), some (.ref pp), y] ∧ Same H H4 ∧ (ts.take i).all (conB mk F) = true) ?_ ?_ ?_ ?_
    · exact ⟨none, rfl, .refl _, rfl⟩
    · exact fun i σ H4 _ ⟨_, _, sm, _⟩ => (epp.same sm).sq
    · rintro i x σ H4 hx ⟨y, rfl, sm, hall⟩
      obtain ⟨t', et, it⟩ := hL.get hx
      refine ⟨_, rfl, _, rfl, .ref a, x, t', mk, F, rfl, hT.same sm, hM, it.same sm, hO.mem (List.mem_of_getElem? et), fun H5 s5 => ⟨_, rfl, ?_⟩⟩
      cases hk2 : conB mk F t' with
      | true => exact iteF ⟨_, rfl, sm.trans s5, take_all et hall hk2⟩
      | false =>
        have := q H5 (sm.trans s5)
        rw [not_all et hk2] at this
        exact iteT this
    · rintro σ H4 ⟨y, rfl, sm, hall⟩
      rw [hlen, List.take_length] at hall
      rw [hall] at q
      exact q H4 sm
end
end Kx
namespace Kx
open PySem PySem.Spec PyProof.Rows L2
section
variable {P : Program} {w : World} {K : PySem.W.Frag} {mg : Str → Option Value} {base : Heap}
set_option pp.maxSteps 900
/-! ### the words of a table, tables -/
def HdG (t : PV) : Prop := ∃ r, t = .tup (.str (fst1 t) :: r)
theorem mrow_hd {t : PV} (h : mrowB t = true) : HdG t := by
  have := (mrow_inv h).1
  exact ⟨[.oth (.int (mnum t))], this⟩
theorem con_hd {mk : List (Str × Int)} {F : List Str} {t : PV} (h : conB mk F t = true) : HdG t := by
  unfold conB at h
  split at h
  · rename_i w ps f ix
    simp only [Bool.and_eq_true] at h
    obtain ⟨e, _⟩ := word_inv h.1
    rw [e]
    exact ⟨_, rfl⟩
  · cases h
theorem Is.head {H : Hp} {v : V} {t : PV} (h : Is H v t) (g : HdG t) : ∃ a vs, v = .ref a ∧ TupF H a (.str (fst1 t) :: vs) := by
  obtain ⟨r, e⟩ := g
  generalize fst1 t = z at e ⊢
  subst e
  obtain ⟨a, vs, rfl, ea, hL⟩ := h.tup_inv
  cases hL with
  | cons h0 r' =>
    cases h0.str_inv
    exact ⟨a, _, rfl, ea⟩
theorem take_add {α : Type} {l : List α} {i : Nat} {x : α} (e : l[i]? = some x) : l.take (i + 1) = l.take i ++ [x] := by
  obtain ⟨hi, rfl⟩ := List.getElem?_eq_some_iff.mp e
  exact List.take_succ_eq_append_getElem hi
/-- a table's parts stand there -/
structure TabW (H : Hp) (tv : V) (m f c : PV) : Prop where
  ex : ∃ (a : Addr) (x0 x1 x2 x3 : V), tv = .ref a ∧ TupF H a [x0, x1, x2, x3] ∧ Is H x1 m ∧ Is H x2 f ∧ Is H x3 c
theorem TabW.same {H H' : Hp} {tv : V} {m f c : PV} (s : Same H H') (h : TabW H tv m f c) : TabW H' tv m f c := by
  obtain ⟨a, x0, x1, x2, x3, e, ea, i1, i2, i3⟩ := h.ex
  exact ⟨a, x0, x1, x2, x3, e, ea.same s, i1.same s, i2.same s, i3.same s⟩
def spWordsOf : Sp := fun vs H Q _ => ∃ (tv : V) (ms : List PV) (F : List Str) (cs : List PV), vs = [tv] ∧ TabW H tv (.tup ms) (.tup (F.map PV.str)) (.tup cs) ∧ ms.length ≤ 5 ∧ F.length ≤ 4 ∧ cs.length ≤ 16 ∧ (∀ t ∈ ms, HdG t) ∧ (∀ t ∈ cs, HdG t) ∧
  ∀ l H', Same H H' → H' l = some (.lst ((ms.map fst1 ++ F ++ cs.map fst1).map V.str)) → Q (.ref l) H'
theorem fams_vals {H : Hp} : ∀ {F : List Str} {vs : List V}, IsL H vs (F.map PV.str) → vs = F.map V.str
  | [], _, .nil => rfl
  | z :: r, _, .cons h t => by
    cases h.str_inv
    rw [fams_vals t]; rfl
theorem ok_words_of (T : Txt K mg)  : FnOk P w K mg base CX0 1 T.a_words_of T.d_words_of ["table"] spWordsOf := by
  refine T.F_words_of.ok sc_words_of (fun vs H Q E h => ?_) (fun cdv A outer s H vs Q E hr h => ?_)
  · obtain ⟨tv, ms, F, cs, rfl, _⟩ := h; rfl
  · obtain ⟨tv, ms, F, cs, rfl, hW, l5, l4, l16, g1, g2, q⟩ := h
    refine ⟨_, (pss_cons (ps_setLc (i := 1) (own := [("maker", 3)]) (g := (gName 3)) (tt := tYes) rfl sc_words_of.nd rfl rfl (sw_true rfl rfl rfl (by decide +kernel)) (pi_tup (pe_ix ix_tup (pv 0) pe_int (fun _ _ => rfl))) (blkOk_by (own := [("maker", 3)]) (N := ["table", "makers", "constructors", "maker", "constructor"]) (sc := defScope s_words_of) (by decide +kernel)) (fun _ _ _ _ _ => (pg_name (i := 3) sc_words_of.nd rfl (Or.inl rfl))) (fun _ _ _ _ _ => pts_nil) (fun _ _ _ _ _ => (pe_ix (ixTK (K := K)) (pv 3) pe_int (fun _ _ => rfl))))
    (pss_cons (ps_setLc (i := 2) (own := [("constructor", 4)]) (g := (gName 4)) (tt := tYes) rfl sc_words_of.nd rfl rfl (sw_true rfl rfl rfl (by decide +kernel)) (pi_tup (pe_ix ix_tup (pv 0) pe_int (fun _ _ => rfl))) (blkOk_by (own := [("constructor", 4)]) (N := ["table", "makers", "constructors", "maker", "constructor"]) (sc := defScope s_words_of) (by decide +kernel)) (fun _ _ _ _ _ => (pg_name (i := 4) sc_words_of.nd rfl (Or.inl rfl))) (fun _ _ _ _ _ => pts_nil) (fun _ _ _ _ _ => (pe_ix (ixTK (K := K)) (pv 4) pe_int (fun _ _ => rfl))))
    (pss_one (ps_ret (pe_op op_cat (pe_op op_cat (pv 1) (pe_callTy call_list_of (by rfl) T.z_list (by decide +kernel) (pa_cons (pe_ix ix_tup (pv 0) pe_int (fun _ _ => rfl)) pa_nil))) (pv 2)))))), ?_⟩
    obtain ⟨t, x0, x1, x2, x3, rfl, et, i1, i2, i3⟩ := hW.ex
    obtain ⟨m, mvs, rfl, em, mL⟩ := i1.tup_inv
    obtain ⟨f, fvs, rfl, ef, fL⟩ := i2.tup_inv
    obtain ⟨c, cvs, rfl, ec, cL⟩ := i3.tup_inv
    cases fams_vals fL
    have lm := mL.len
    have lc := cL.len
    refine ⟨_, rfl, t, _, _, _, rfl, rfl, et.sq, atI_nat (j := 1) rfl, m, rfl, ⟨_, em.sq⟩, fun D hD => ?_⟩
    refine lc_tup (K := K) (a := m) (xs := mvs) (fun i H2 => Same H H2 ∧ H2 D = some (.lst (((ms.take i).map fst1).map V.str))) ?_ ?_ ?_ ?_
    · exact ⟨same_upd hD _, upd_same⟩
    · exact fun i H2 _ ⟨sm, _⟩ => (em.same sm).sq
    · rintro i x H2 hx ⟨sm, eD⟩
      obtain ⟨tt, ett, it⟩ := mL.get hx
      obtain ⟨b, us, rfl, eb⟩ := (it.same sm).head (g1 _ (List.mem_of_getElem? ett))
      refine ⟨rfl, yes_if ⟨_, rfl, b, _, _, _, rfl, rfl, eb.sq, atI_nat (j := 0) rfl, _, eD, small1000 (by simp only [List.length_map, List.length_take]; omega), Kx.Same.own sm hD _, ?_⟩⟩
      rw [upd_same, take_add ett, List.map_append, List.map_append]; rfl
    rintro H2 ⟨s2, eD⟩
    rw [lm, List.take_length] at eD
    refine ⟨_, rfl, t, _, _, _, rfl, rfl, (et.same s2).sq, atI_nat (j := 3) rfl, c, rfl, ⟨_, (ec.same s2).sq⟩, fun D2 hD2 => ?_⟩
    refine lc_tup (K := K) (a := c) (xs := cvs) (fun i H3 => Same H2 H3 ∧ H3 D2 = some (.lst (((cs.take i).map fst1).map V.str))) ?_ ?_ ?_ ?_
    · exact ⟨same_upd hD2 _, upd_same⟩
    · exact fun i H3 _ ⟨sm, _⟩ => (ec.same (s2.trans sm)).sq
    · rintro i x H3 hx ⟨sm, eD3⟩
      obtain ⟨tt, ett, it⟩ := cL.get hx
      obtain ⟨b, us, rfl, eb⟩ := (it.same (s2.trans sm)).head (g2 _ (List.mem_of_getElem? ett))
      refine ⟨rfl, yes_if ⟨_, rfl, b, _, _, _, rfl, rfl, eb.sq, atI_nat (j := 0) rfl, _, eD3, small1000 (by simp only [List.length_map, List.length_take]; omega), Kx.Same.own sm hD2 _, ?_⟩⟩
      rw [upd_same, take_add ett, List.map_append, List.map_append]; rfl
    rintro H3 ⟨s3, eD3⟩
    rw [lc, List.take_length] at eD3
    have s23 := s2.trans s3
    refine ⟨_, rfl, _, rfl, t, _, _, _, rfl, rfl, (et.same s23).sq, atI_nat (j := 2) rfl, f, _, rfl, .inr (ef.same s23).sq, fun l hl => ?_⟩
    have s4 := same_upd hl (.lst (F.map V.str))
    refine ⟨D, l, _, _, rfl, rfl, s4 _ _ (s3 _ _ eD), upd_same, by rw [List.length_map, List.length_map, List.length_map]; exact Nat.le_of_lt (small1000 (by omega)), fun l2 hl2 => ?_⟩
    have s5 := same_upd hl2 (.lst ((ms.map fst1).map V.str ++ F.map V.str))
    refine ⟨_, rfl, l2, D2, _, _, rfl, rfl, upd_same, s5 _ _ (s4 _ _ eD3), by simp only [List.length_append, List.length_map]; exact Nat.le_of_lt (small1000 (by omega)), fun l3 hl3 => ?_⟩
    have s6 := same_upd hl3 (.lst (((ms.map fst1).map V.str ++ F.map V.str) ++ ((cs.map fst1).map V.str)))
    exact q l3 _ (((s23.trans s4).trans s5).trans s6) (by rw [upd_same]; simp only [List.map_append, List.append_assoc])
theorem isT_not {t : PV} (h : rowB 4 t = false) : isT t = false := by
  unfold isT
  split
  · simp [rowB] at h
  · rfl
def spIsTab : Sp := fun vs H Q _ => ∃ v t, vs = [v] ∧ Is H v t ∧ Ok 32 t ∧ ∀ H', Same H H' → Q (.bl (isT t)) H'
theorem ok_is_table (T : Txt K mg) (G_is_row : FnOk P w K mg base CX0 1 T.a_is_row T.d_is_row ["value", "many"] spRow) (G_are_makers : FnOk P w K mg base CX0 3 T.a_are_makers T.d_are_makers ["value"] spMakers) (G_are_families : FnOk P w K mg base CX0 2 T.a_are_families T.d_are_families ["value"] spFams) (G_are_constructors : FnOk P w K mg base CX0 36 T.a_are_constructors T.d_are_constructors ["table"] spCons) (G_words_of : FnOk P w K mg base CX0 1 T.a_words_of T.d_words_of ["table"] spWordsOf) : FnOk P w K mg base CX0 37 T.a_is_table T.d_is_table ["value"] spIsTab := by
  refine T.F_is_table.ok sc_is_table (fun vs H Q E h => ?_) (fun cdv A outer s H vs Q E hr h => ?_)
  · obtain ⟨v, t, rfl, _⟩ := h; rfl
  · obtain ⟨v, t, rfl, hI, hO, q⟩ := h
    have hr_is_row := hr.mono (show 1 ≤ 36 by decide)
    have hr_are_makers := hr.mono (show 3 ≤ 36 by decide)
    have hr_are_families := hr.mono (show 2 ≤ 36 by decide)
    have hr_are_constructors := hr
    have hr_words_of := hr.mono (show 1 ≤ 36 by decide)
    refine ⟨_, (pss_cons (ps_if (PW.pt (pw_or (pt_not (pt_val (pe_call G_is_row hr_is_row rfl T.m_is_row T.F_is_row.kp T.b_is_row .nil pass0 (pa_cons (pv 0) (pa_cons pe_int pa_nil))))) (pw_or1 (pt_cmpR (op_neZ (u0 hr)) (pe_ix ix_tup (pv 0) pe_int (fun _ _ => rfl)) pe_str (nomark _))))) (pss_one (ps_ret pe_bl)) pss_nil)
    (pss_cons (ps_if (PW.pt (pw_or (pt_not (pt_val (pe_call G_are_makers hr_are_makers rfl T.m_are_makers T.F_are_makers.kp T.b_are_makers .nil pass0 (pa_cons (pe_ix ix_tup (pv 0) pe_int (fun _ _ => rfl)) pa_nil)))) (pw_or (pt_not (pt_val (pe_call G_are_families hr_are_families rfl T.m_are_families T.F_are_families.kp T.b_are_families .nil pass0 (pa_cons (pe_ix ix_tup (pv 0) pe_int (fun _ _ => rfl)) pa_nil)))) (pw_or1 (pt_not (pt_val (pe_call G_are_constructors hr_are_constructors rfl T.m_are_constructors T.F_are_constructors.kp T.b_are_constructors .nil pass0 (pa_cons (pv 0) pa_nil)))))))) (pss_one (ps_ret pe_bl)) pss_nil)
    (pss_cons (ps_set (i := 1) sc_is_table.nd rfl (Or.inl rfl) (pe_call G_words_of hr_words_of rfl T.m_words_of T.F_words_of.kp T.b_words_of .nil pass0 (pa_cons (pv 0) pa_nil)))
    (pss_one (ps_ret (pe_cmpR op_eq (pe_callB cr_lenZ (by rfl) T.z_len (by decide +kernel) (pa_cons (pe_callTy (cr_setZ rfl) (by rfl) T.z_set (by decide +kernel) (pa_cons (pv 1) pa_nil)) pa_nil)) (pe_callB call_len_seq (by rfl) T.z_len (by decide +kernel) (pa_cons (pv 1) pa_nil)) (nomark _))))))), ?_⟩
    have q0 := q H (.refl H)
    refine ⟨_, rfl, v, t, 4, rfl, hI, _, rfl, ?_⟩
    cases hb : rowB 4 t with
    | false =>
      rw [isT_not hb] at q0
      exact iteT (iteT q0)
    | true =>
    obtain ⟨ta, tm, tf, tc, rfl⟩ := four_inv hb
    obtain ⟨p, va, vm, vf, vc, rfl, ep, ia, im, iF, ic⟩ := hI.four
    replace q : ∀ H', Same H H' → Q (.bl (isZ "table" ta && (mkB tm && (famB tf && (csB (conB (mkL tm) (famL tf)) tc && decide ((wordsOf tm tf tc).Nodup)))))) H' := q
    refine iteF ⟨_, rfl, p, _, _, _, rfl, rfl, ep.sq, atI_nat (j := 0) rfl, ta, "table", rfl, ia, _, rfl, ?_⟩
    cases hz : isZ "table" ta with
    | false =>
      have := q H (.refl H)
      rw [hz] at this
      exact iteT this
    | true =>
    rw [hz] at q
    refine iteF ⟨_, rfl, p, _, _, _, rfl, rfl, ep.sq, atI_nat (j := 1) rfl, vm, tm, 30, rfl, im, (hO.mem (by simp) : Ok 31 tm).mono (by decide), fun H1 s1 => ⟨_, rfl, ?_⟩⟩
    cases hm : mkB tm with
    | false =>
      have := q H1 s1
      rw [hm] at this
      exact iteT (iteT this)
    | true =>
    rw [hm] at q
    refine iteF ⟨_, rfl, p, _, _, _, rfl, rfl, (ep.same s1).sq, atI_nat (j := 2) rfl, vf, tf, 30, rfl, iF.same s1, hO.mem (by simp), _, rfl, ?_⟩
    cases hf : famB tf with
    | false =>
      have := q H1 s1
      rw [hf] at this
      exact iteT this
    | true =>
    rw [hf] at q
    obtain ⟨em, G⟩ := mkB_inv hm
    obtain ⟨ef, lf4, _⟩ := famB_inv hf
    have hT : TabAt H1 (.ref p) (mkL tm) (famL tf) := by
      rw [em] at im
      obtain ⟨m, mvs, rfl, em', mL⟩ := (im.same s1).tup_inv
      rw [ef] at iF
      obtain ⟨f, fvs, rfl, ef', fL⟩ := (iF.same s1).tup_inv
      have hok : ∀ {F : List Str} {vs : List V}, IsL H1 vs (F.map PV.str) → ∀ z ∈ F, sok z = true := fun {F vs} h z hz => by
        obtain ⟨x, hx⟩ := h.of_mem (.str z) (List.mem_map.mpr ⟨z, hz, rfl⟩)
        cases hx
        assumption
      have ev := fams_vals fL
      subst ev
      exact ⟨p, m, f, va, vc, rfl, ep.same s1, ⟨mvs, em', mL⟩, ef', hok fL⟩
    refine iteF ⟨_, rfl, .ref p, tc, mkL tm, famL tf, rfl, hT, G, ⟨p, va, vm, vf, vc, rfl, ep.same s1, ic.same s1⟩, hO.mem (by simp), fun H2 s2 => ⟨_, rfl, ?_⟩⟩
    have s12 := s1.trans s2
    cases hc : csB (conB (mkL tm) (famL tf)) tc with
    | false =>
      have := q H2 s12
      rw [hc] at this
      exact iteT this
    | true =>
    rw [hc] at q
    refine iteF ?_
    obtain ⟨cs, ec, lc16, gc⟩ : ∃ cs, tc = .tup cs ∧ cs.length ≤ 16 ∧ ∀ t ∈ cs, HdG t := by
      cases tc with
      | str _ => cases hc
      | oth _ => cases hc
      | tup cs =>
        simp only [csB, Bool.and_eq_true, decide_eq_true_eq, List.all_eq_true] at hc
        exact ⟨cs, rfl, hc.1, fun t ht => con_hd (hc.2 t ht)⟩
    obtain ⟨ms, ems, lm5, gm⟩ : ∃ ms, tm = .tup ms ∧ ms.length ≤ 5 ∧ ∀ t ∈ ms, HdG t := by
      cases tm with
      | str _ => cases hm
      | oth _ => cases hm
      | tup ms =>
        simp only [mkB, Bool.and_eq_true, decide_eq_true_eq] at hm
        exact ⟨ms, rfl, hm.1.1.2, fun t ht => mrow_hd (List.all_eq_true.mp hm.1.2 t ht)⟩
    have hW : TabW H2 (.ref p) (.tup ms) (.tup ((famL tf).map PV.str)) (.tup cs) := by
      rw [← ems, ← ef, ← ec]
      exact ⟨p, va, vm, vf, vc, rfl, ep.same s12, im.same s12, iF.same s12, ic.same s12⟩
    have ew : wordsOf tm tf tc = ms.map fst1 ++ famL tf ++ cs.map fst1 := by
      rw [ems, ec]
      simp only [wordsOf, mkL, cwords, List.map_map]
      rfl
    rw [ew] at q
    generalize hws : ms.map fst1 ++ famL tf ++ cs.map fst1 = ws at q
    have lw : ws.length ≤ 25 := by
      rw [← hws]
      simp only [List.length_append, List.length_map]; omega
    refine ⟨_, rfl, .ref p, ms, famL tf, cs, rfl, hW, lm5, lf4, lc16, gm, gc, fun l H3 s3 el => ?_⟩
    rw [hws] at el
    refine ⟨_, rfl, l, ws, rfl, SqL.of el, by omega, fun p3 zs hp3 nd m le => ?_⟩
    have s4 := same_upd hp3 (ZO P w p3 zs)
    refine ⟨p3, zs, rfl, upd_same, by omega, _, rfl, l, _, rfl, .inl (SqL.of (s4 _ _ el)), rfl, ?_⟩
    have e1 : decide (V.int (zs.length : Int) = V.int ((ws.map V.str).length : Int)) = decide ws.Nodup := by
      rw [← set_len nd m le, dec_int, Bool.eq_iff_iff]
      simp only [beq_iff_eq, decide_eq_true_eq, List.length_map]
      omega
    show Q (.bl (decide (V.int (zs.length : Int) = V.int ((ws.map V.str).length : Int)))) _
    rw [e1]
    exact q _ ((s12.trans s3).trans s4)
end
end Kx
namespace Kx
open PySem PySem.Spec PyProof.Rows L2
section
variable {P : Program} {w : World} {K : PySem.W.Frag} {mg : Str → Option Value} {base : Heap}
set_option pp.maxSteps 900
/-! ### the law's depth -/
theorem pair_shaped {w : Str} {i : Int} (h : sok w = true) : SeqAt.shaped (.tuple [.str w, .int i]) = true := by
  simp only [SeqAt.shaped, PyData.canLay0, PyData.canLayAll0, PyData.depth, PyData.depthAll, show PyData.strOk w = true from h]
  rfl
theorem pair_eqv (w w' : Str) (i j : Int) : (PyData.tuple [.str w, .int i]).eqv (.tuple [.str w', .int j]) = decide ((w, i) = (w', j)) := by
  rw [Bool.eq_iff_iff]
  simp [PyData.eqv, PyData.eqvAll]
theorem pair_dp {K : PySem.W.Frag} {H : Hp} {a : Addr} {w : Str} {i : Int} (e : TupF H a [.str w, .int i]) : Dp K H (.ref a) (.tuple [.str w, .int i]) := .tup e.sq (.cons (.str w) (.cons (.int i) .nil))
theorem pair_dp' {K : PySem.W.Frag} {H : Hp} {a : Addr} {w : Str} {i : Int} (e : H a = some (.tup [.str w, .int i])) : Dp K H (.ref a) (.tuple [.str w, .int i]) := .tup (.inl (.inl e)) (.cons (.str w) (.cons (.int i) .nil))
def spLDeep (n : Nat) : Sp := fun vs H Q _ => ∃ (m : Addr) (mk : List (Str × Int)) (v : V) (t : PV), vs = [.ref m, v] ∧ MkAt H m mk ∧ mk.length ≤ 5 ∧ Is H v t ∧ Ok n t ∧ ∀ H', Same H H' → Q (.int (ldeep mk t)) H'
theorem ldeepL_max {mk : List (Str × Int)} : ∀ {l : List PV} {x : Int}, x ∈ (0 : Int) :: l.map (fun t => (ldeep mk t : Int)) → (∀ y ∈ (0 : Int) :: l.map (fun t => (ldeep mk t : Int)), y ≤ x) → x = (ldeepL mk l : Int) := by
  intro l x hx hm
  have h1 : ∀ l : List PV, ∀ t ∈ l, ldeep mk t ≤ ldeepL mk l := fun l t ht => ldeepL_le.mp (Nat.le_refl _) t ht
  have h2 : ∀ l : List PV, ldeepL mk l = 0 ∨ ∃ t ∈ l, ldeep mk t = ldeepL mk l := by
    intro l
    induction l with
    | nil => exact .inl rfl
    | cons a r ih =>
      simp only [ldeepL]
      by_cases h : ldeepL mk r ≤ ldeep mk a
      · exact .inr ⟨a, List.mem_cons_self .., by omega⟩
      · rcases ih with e | ⟨t, ht, e⟩
        · omega
        · exact .inr ⟨t, List.mem_cons_of_mem _ ht, by omega⟩
  have up : (ldeepL mk l : Int) ≤ x := by
    rcases h2 l with e | ⟨t, ht, e⟩
    · rw [e]; exact hm 0 (List.mem_cons_self ..)
    · rw [← e]; exact hm _ (List.mem_cons_of_mem _ (List.mem_map.mpr ⟨t, ht, rfl⟩))
  rcases List.mem_cons.mp hx with e | e
  · omega
  · obtain ⟨t, ht, e⟩ := List.mem_map.mp e
    have := h1 l t ht
    omega
theorem ok_law_deep {n : Nat} (T : Txt K mg) (G_law_is_word : FnOk P w K mg base CX0 1 T.a_law_is_word T.d_law_is_word ["value"] spLWord) (G_law_deep : FnOk P w K mg base CX0 (n+1) T.a_law_deep T.d_law_deep ["makers", "value"] (spLDeep n)) : FnOk P w K mg base CX0 (n+2) T.a_law_deep T.d_law_deep ["makers", "value"] (spLDeep (n+1)) := by
  refine T.F_law_deep.ok sc_law_deep (fun vs H Q E h => ?_) (fun cdv A outer s H vs Q E hr h => ?_)
  · obtain ⟨m, mk, v, t, rfl, _⟩ := h; rfl
  · obtain ⟨m, mk, v, t, rfl, hM, l5, hI, hO, q⟩ := h
    have hr_law_deep := hr
    have hr_law_is_word : Room 1 _ := hr.mono (by omega)
    refine ⟨_, (pss_cons (ps_if (pt_val (pe_callB call_isi (by rfl) T.z_isinstance (by decide +kernel) (pa_cons (pv 1) (pa_cons (pe_bltn rfl T.z_str (by decide +kernel) (show RelV (V.ty "str") (Value.type "str") from rfl)) pa_nil)))) (pss_cons (ps_if (PW.pt (pw_or (pt_not (pt_val (pe_call G_law_is_word hr_law_is_word rfl T.m_law_is_word T.F_law_is_word.kp T.b_law_is_word .nil pass0 (pa_cons (pv 1) pa_nil)))) (pw_or1 (pt_cmpR op_in_seq (pv 1) (pe_lc (own := [("row", 2)]) (g := (gName 2)) (tt := tYes) rfl sc_law_deep.nd (pi_tup (pv 0)) (blkOk_by (own := [("row", 2)]) (N := ["makers", "value", "row", "part"]) (sc := defScope s_law_deep) (by decide +kernel)) (fun _ _ _ _ _ => (pg_name (i := 2) sc_law_deep.nd rfl (Or.inl rfl))) (fun _ _ _ _ _ => pts_nil) (fun _ _ _ _ _ => (pe_ix (ixTK (K := K)) (pv 2) pe_int (fun _ _ => rfl)))) (by rfl))))) (pss_one (ps_ret pe_int)) pss_nil)
    (pss_one (ps_ret pe_int))) pss_nil)
    (pss_cons (ps_if (PW.pt (pw_or (pt_not (pt_val (pe_callB call_isi (by rfl) T.z_isinstance (by decide +kernel) (pa_cons (pv 1) (pa_cons (pe_bltn rfl T.z_tuple (by decide +kernel) (show RelV (V.ty "tuple") (Value.type "tuple") from rfl)) pa_nil))))) (pw_or (pt_cmpR op_eq (pe_callB call_len_seq (by rfl) T.z_len (by decide +kernel) (pa_cons (pv 1) pa_nil)) pe_int (nomark _)) (pw_or1 (pt_not (pt_val (pe_callB call_isi (by rfl) T.z_isinstance (by decide +kernel) (pa_cons (pe_ix ix_tup (pv 1) pe_int (fun _ _ => rfl)) (pa_cons (pe_bltn rfl T.z_str (by decide +kernel) (show RelV (V.ty "str") (Value.type "str") from rfl)) pa_nil))))))))) (pss_one (ps_ret pe_int)) pss_nil)
    (pss_cons (ps_if (pt_cmpR op_eq (pe_callB call_len_seq (by rfl) T.z_len (by decide +kernel) (pa_cons (pe_lc (own := [("row", 2)]) (g := (gName 2)) rfl sc_law_deep.nd (pi_tup (pv 0)) (blkOk_by (own := [("row", 2)]) (N := ["makers", "value", "row", "part"]) (sc := defScope s_law_deep) (by decide +kernel)) (fun _ _ _ _ _ => (pg_name (i := 2) sc_law_deep.nd rfl (Or.inl rfl))) (fun _ _ _ _ _ => pts_one (pt_cmpR (eqDK (K := K) (u64 hr)) (pv 2) (pe_tup (pa_cons (pe_ix (ixTK (K := K)) (pv 1) pe_int (fun _ _ => rfl)) (pa_cons (pe_op op_sub (pe_callB (lenSeqK (K := K)) (by rfl) T.z_len (by decide +kernel) (pa_cons (pv 1) pa_nil)) pe_int) pa_nil))) (nomark _))) (fun _ _ _ _ _ => (pv 2))) pa_nil)) pe_int (nomark _)) (pss_one (ps_ret pe_int)) pss_nil)
    (pss_one (ps_ret (pe_op op_add pe_int (pe_callB (cr_max rfl) (by rfl) T.z_max (by decide +kernel) (pa_cons (pe_op op_cat (pe_lst (pa_cons pe_int pa_nil)) (pe_lc (own := [("part", 3)]) (g := (gName 3)) (tt := tYes) rfl sc_law_deep.nd (pi_tup (pe_slice sl_tup (pv 1) (po_some pe_int) po_none)) (blkOk_by (own := [("part", 3)]) (N := ["makers", "value", "row", "part"]) (sc := defScope s_law_deep) (by decide +kernel)) (fun _ _ _ _ _ => (pg_name (i := 3) sc_law_deep.nd rfl (Or.inl rfl))) (fun _ _ _ _ _ => pts_nil) (fun _ _ _ _ _ => (pe_call G_law_deep hr_law_deep rfl T.m_law_deep T.F_law_deep.kp T.b_law_deep .nil pass0 (pa_cons (pv 0) (pa_cons (pv 3) pa_nil)))))) pa_nil)))))))), ?_⟩
    obtain ⟨mvs, em, mL⟩ := hM.ex
    have lm := mL.len
    rw [List.length_map] at lm
    obtain ⟨u, ty, kt⟩ := hI.ty (K := K)
    have q0 := q H (.refl H)
    refine ⟨_, rfl, _, _, u, _, _, rfl, .ty _, ty, kit_str kt, _, rfl, ?_⟩
    have nine : ∀ {H'}, Same H H' → ldeep mk t = 9 → Q (.int 9) H' := fun {H'} s e => by
      have := q H' s
      rw [e] at this
      exact this
    cases hs : isStr t with
    | true =>
      cases t with
      | oth _ => cases hs
      | tup _ => cases hs
      | str z =>
      cases hI.str_inv
      refine iteT ⟨_, rfl, _, .str z, n + 1, rfl, hI, hO, fun H1 s1 => ⟨_, rfl, ?_⟩⟩
      rw [show wordB (.str z) = wok z from rfl]
      cases hw : wok z with
      | false => exact iteT (iteT (nine s1 (by simp only [ldeep, hw]; rfl)))
      | true =>
      have em1 := em.same s1
      have mL1 := mL.same s1
      refine iteF ⟨_, rfl, _, rfl, m, rfl, ⟨_, em1.sq⟩, fun D hD => ?_⟩
      refine lc_tup (K := K) (a := m) (xs := mvs) (fun i H2 => Same H1 H2 ∧ H2 D = some (.lst (((mk.take i).map (·.1)).map V.str))) ?_ ?_ ?_ ?_
      · exact ⟨same_upd hD _, upd_same⟩
      · exact fun i H2 _ ⟨sm, _⟩ => (em1.same sm).sq
      · rintro i x H2 hx ⟨sm, eD⟩
        obtain ⟨tt, ett, it⟩ := mL1.get hx
        rw [List.getElem?_map] at ett
        obtain ⟨m2, em2, rfl⟩ := Option.map_eq_some_iff.mp ett
        obtain ⟨b, x1, x2, e0, eb, i1, i2⟩ := (it.same sm).two
        subst e0
        cases i1
        refine ⟨rfl, yes_if ⟨_, rfl, b, _, _, _, rfl, rfl, eb.sq, atI_nat (j := 0) rfl, _, eD, small1000 (by simp only [List.length_map, List.length_take]; omega), Kx.Same.own sm hD _, ?_⟩⟩
        rw [upd_same, take_add em2, List.map_append, List.map_append]; rfl
      · rintro H2 ⟨s2, eD⟩
        rw [lm, List.take_length] at eD
        refine ⟨D, _, rfl, .inl (SqL.of eD), rfl, flat_str _, _, rfl, ?_⟩
        rw [inV_str]
        have s12 := s1.trans s2
        by_cases hz : z ∈ mk.map (·.1)
        · rw [decide_eq_true hz]
          exact iteT (nine s12 (by simp only [ldeep, hw]; rw [decide_eq_true hz]; rfl))
        · rw [decide_eq_false hz]
          have := q H2 s12
          rw [show ldeep mk (.str z) = 1 by simp only [ldeep, hw]; rw [decide_eq_false hz]; rfl] at this
          exact iteF this
    | false =>
    refine iteF ⟨_, rfl, _, _, u, _, _, rfl, .ty _, ty, kit_tup kt, _, rfl, ?_⟩
    cases t with
    | str _ => cases hs
    | oth _ => exact iteT (iteT (nine (.refl H) (by simp [ldeep])))
    | tup l =>
    obtain ⟨a, vs, rfl, ea, hL⟩ := hI.tup_inv
    have hlen := hL.len
    refine iteF ⟨_, rfl, a, vs, rfl, .inr ea.sq, rfl, _, rfl, ?_⟩
    rw [len0]
    cases hL with
    | nil => exact iteT (iteT (nine (.refl H) (by simp [ldeep])))
    | @cons v0 vs t0 ts h0 hL =>
    have e0 : ((v0 :: vs).length == 0) = false := rfl
    rw [e0]
    obtain ⟨u0, ty0, kt0⟩ := h0.ty (K := K)
    refine iteF ⟨_, rfl, a, _, _, _, rfl, rfl, ea.sq, atI_nat (j := 0) rfl, _, _, u0, _, _, rfl, .ty _, ty0, kit_str kt0, _, rfl, ?_⟩
    cases t0 with
    | oth _ => exact iteT (nine (.refl H) (by simp [ldeep]))
    | tup _ => exact iteT (nine (.refl H) (by simp [ldeep]))
    | str w0 =>
    cases h0.str_inv
    refine iteF ?_
    have ok0 : sok w0 = true := by
      cases h0
      assumption
    refine ⟨_, rfl, m, rfl, ⟨_, em.sq⟩, fun D hD => ?_⟩
    refine lc_tup (K := K) (a := m) (xs := mvs) (fun i H2 => ∃ acc, Same H H2 ∧ H2 D = some (.lst acc) ∧ acc.length ≤ i ∧ (acc.length == 0) = !(mk.take i).any fun k => decide (k = (w0, (ts.length : Int)))) ?_ ?_ ?_ ?_
    · exact ⟨[], same_upd hD _, upd_same, Nat.le_refl _, rfl⟩
    · exact fun i H2 _ ⟨_, sm, _⟩ => (em.same sm).sq
    · rintro i x H2 hx ⟨acc, sm, eD, hle, hno⟩
      obtain ⟨tt, ett, it⟩ := mL.get hx
      rw [List.getElem?_map] at ett
      obtain ⟨m2, em2, rfl⟩ := Option.map_eq_some_iff.mp ett
      have hi := (List.getElem?_eq_some_iff.mp em2).1
      obtain ⟨b, x1, x2, e0, eb, i1, i2⟩ := (it.same sm).two
      subst e0
      have ok1 : sok m2.1 = true := by
        cases i1
        assumption
      cases i1
      cases i2
      have ea2 := ea.same sm
      refine ⟨rfl, _, rfl, _, rfl, a, _, _, _, rfl, rfl, ea2.sq, atI_nat (j := 0) rfl, _, rfl, a, _, rfl, .inr ea2.sq, _, _, rfl, rfl, (by show 2 ≤ sizeLine; decide), fun p1 hp1 => ?_⟩
      have e9 : (((V.str w0 :: vs).length : Nat) : Int) - 1 = (ts.length : Int) := by rw [List.length_cons, hL.len]; omega
      have sp := same_upd hp1 (.tup [V.str w0, .int ((((V.str w0 :: vs).length : Nat) : Int) - 1)])
      have tk : ((mk.take (i + 1)).any fun k => decide (k = (w0, (ts.length : Int)))) = (((mk.take i).any fun k => decide (k = (w0, (ts.length : Int)))) || decide (m2 = (w0, (ts.length : Int)))) := by
        rw [take_add em2, List.any_append]; simp
      refine ⟨_, _, pair_dp (K := K) (eb.same sp), pair_dp' (K := K) upd_same, pair_shaped ok1, pair_shaped ok0, _, rfl, ?_⟩
      have ee : (PyData.tuple [.str m2.1, .int m2.2]).eqv (.tuple [.str w0, .int ((((V.str w0 :: vs).length : Nat) : Int) - 1)]) = decide (m2 = (w0, (ts.length : Int))) := by
        rw [pair_eqv, e9]
      rw [ee]
      cases hz : decide (m2 = (w0, (ts.length : Int))) with
      | true =>
        refine iteT ⟨_, rfl, acc, sp _ _ eD, small1000 (by omega), acc ++ [.ref b], Kx.Same.own (sm.trans sp) hD _, upd_same, by rw [List.length_append, List.length_singleton]; omega, ?_⟩
        rw [tk, hz, Bool.or_true, List.length_append]; simp
      | false =>
        exact iteF ⟨acc, sm.trans sp, sp _ _ eD, by omega, by rw [tk, hz, Bool.or_false]; exact hno⟩
    · rintro H2 ⟨acc, sm, eD, hle, hno⟩
      rw [lm, List.take_length] at hno
      refine ⟨D, acc, rfl, .inl (SqL.of eD), rfl, _, rfl, ?_⟩
      rw [len0, hno]
      by_cases hm : (w0, (ts.length : Int)) ∈ mk
      case neg =>
        have e9 : (mk.any fun k => decide (k = (w0, (ts.length : Int)))) = false := List.any_eq_false.mpr fun k hk e => hm ((of_decide_eq_true e) ▸ hk)
        rw [e9]
        exact iteT (nine sm (by simp only [ldeep]; rw [decide_eq_false hm]; rfl))
      have e9 : (mk.any fun k => decide (k = (w0, (ts.length : Int)))) = true := List.any_eq_true.mpr ⟨_, hm, decide_eq_true rfl⟩
      rw [e9]
      have el : ldeep mk (.tup (.str w0 :: ts)) = 1 + ldeepL mk ts := by simp only [ldeep]; rw [decide_eq_true hm]; rfl
      rw [el] at q
      refine iteF ⟨(by show 1 ≤ sizeLine; decide), fun d0 hd0 => ?_⟩
      have s1 := same_upd hd0 (.lst [V.int 0])
      have sm1 := sm.trans s1
      refine ⟨_, rfl, _, rfl, a, _, rfl, (ea.same sm1).sq, slice1, fun p1 hp1 => ?_⟩
      rw [cut1]
      have s2 := same_upd hp1 (.tup vs)
      have sm2 := sm1.trans s2
      refine ⟨p1, rfl, ⟨_, .inl (.inl upd_same)⟩, fun D2 hD2 => ?_⟩
      generalize hHb : upd (upd H2 d0 (.lst [V.int 0])) p1 (.tup vs) = Hb at *
      have ed0 : Hb d0 = some (.lst [V.int 0]) := by rw [← hHb] at s2 ⊢; exact s2 _ _ upd_same
      have ep1 : Hb p1 = some (.tup vs) := by rw [← hHb]; exact upd_same
      refine lc_tup (K := K) (a := p1) (xs := vs) (fun i H3 => Same Hb H3 ∧ H3 D2 = some (.lst (((ts.take i).map fun t => (ldeep mk t : Int)).map V.int))) ?_ ?_ ?_ ?_
      · exact ⟨same_upd hD2 _, upd_same⟩
      · exact fun i H3 _ ⟨s3, _⟩ => .inl (.inl (s3 _ _ ep1))
      · rintro i x H3 hx ⟨s3, eD3⟩
        obtain ⟨tt, ett, it⟩ := hL.get hx
        have hi := (List.getElem?_eq_some_iff.mp ett).1
        have l40 : (PV.str w0 :: ts).length ≤ 40 := hO.1
        rw [List.length_cons] at l40
        refine ⟨rfl, yes_if ⟨_, rfl, _, rfl, m, mk, x, tt, rfl, hM.same (sm2.trans s3), l5, it.same (sm2.trans s3), hO.mem (List.mem_cons_of_mem _ (List.mem_of_getElem? ett)), fun H4 s4 => ⟨_, s4 _ _ eD3, small1000 (by simp only [List.length_map, List.length_take]; omega), Kx.Same.own (s3.trans s4) hD2 _, ?_⟩⟩⟩
        rw [upd_same, take_add ett, List.map_append, List.map_append]; rfl
      · rintro H3 ⟨s3, eD3⟩
        rw [hL.len, List.take_length] at eD3
        have l40 : (PV.str w0 :: ts).length ≤ 40 := hO.1
        rw [List.length_cons] at l40
        refine ⟨d0, D2, _, _, rfl, rfl, s3 _ _ ed0, eD3, by simp only [List.length_map, List.length_cons, List.length_nil]; exact Nat.le_of_lt (small1000 (by omega)), fun l3 hl3 => ?_⟩
        have s5 := same_upd hl3 (.lst ([V.int 0] ++ (ts.map fun t => (ldeep mk t : Int)).map V.int))
        refine ⟨l3, (0 : Int) :: ts.map fun t => (ldeep mk t : Int), rfl, SqL.of (by rw [upd_same]; rfl), by simp, fun x hx hmx => ?_⟩
        rw [ldeepL_max hx hmx]
        have := q _ ((sm2.trans s3).trans s5)
        rw [show ((1 + ldeepL mk ts : Nat) : Int) = 1 + (ldeepL mk ts : Int) by omega] at this
        exact ⟨_, _, rfl, rfl, this⟩
end
end Kx
namespace Kx
open PySem PySem.Spec PyProof.Rows L2
section
variable {P : Program} {w : World} {K : PySem.W.Frag} {mg : Str → Option Value} {base : Heap}
set_option pp.maxSteps 900
/-! ### the law's names, pairs -/
def spLNames (n : Nat) : Sp := fun vs H Q _ => ∃ v t, vs = [v] ∧ Is H v t ∧ Sm n t ∧ n ≤ 4 ∧ ∀ l H', Same H H' → H l = none → H' l = some (.lst ((lv t).map V.str)) → Q (.ref l) H'
theorem Sm.up : ∀ {n : Nat} {t : PV}, Sm n t → Sm (n + 1) t
  | n + 1, .str z, _ => trivial
  | n + 1, .tup (.str w :: r), h => ⟨h.1, fun t ht => (h.2 t ht).up⟩
theorem Sm.mono {n m : Nat} {t : PV} (h : Sm n t) (l : n ≤ m) : Sm m t := by
  induction l with
  | refl => exact h
  | step _ ih => exact ih.up
theorem lvL_take {l : List PV} {i : Nat} {t : PV} (e : l[i]? = some t) : lvL (l.take (i + 1)) = lvL (l.take i) ++ lv t := by
  rw [take_add e, lvL_append]
  simp [lvL]
theorem ok_law_names {n : Nat} (T : Txt K mg) (G_law_names : FnOk P w K mg base CX0 (n+1) T.a_law_names T.d_law_names ["term"] (spLNames n)) : FnOk P w K mg base CX0 (n+2) T.a_law_names T.d_law_names ["term"] (spLNames (n+1)) := by
  refine T.F_law_names.ok sc_law_names (fun vs H Q E h => ?_) (fun cdv A outer s H vs Q E hr h => ?_)
  · obtain ⟨v, t, rfl, _⟩ := h; rfl
  · obtain ⟨v, t, rfl, hI, hS, h4, q⟩ := h
    have hr_law_names := hr
    refine ⟨_, (pss_cons (ps_if (pt_val (pe_callB call_isi (by rfl) T.z_isinstance (by decide +kernel) (pa_cons (pv 0) (pa_cons (pe_bltn rfl T.z_str (by decide +kernel) (show RelV (V.ty "str") (Value.type "str") from rfl)) pa_nil)))) (pss_one (ps_ret (pe_lst (pa_cons (pv 0) pa_nil)))) pss_nil)
    (pss_cons (ps_set (i := 1) sc_law_names.nd rfl (Or.inl rfl) (pe_lst pa_nil))
    (pss_cons (ps_for PassesOwn.never rfl (pi_tup (pe_slice sl_tup (pv 0) (po_some pe_int) po_none)) (pg_name (i := 2) sc_law_names.nd rfl (Or.inl rfl))
    (pss_one (ps_set (i := 1) sc_law_names.nd rfl (Or.inl rfl) (pe_op op_cat (pv 1) (pe_call G_law_names hr_law_names rfl T.m_law_names T.F_law_names.kp T.b_law_names .nil pass0 (pa_cons (pv 2) pa_nil))))))
    (pss_one (ps_ret (pv 1)))))), ?_⟩
    obtain ⟨u, ty, kt⟩ := hI.ty (K := K)
    refine ⟨_, rfl, _, _, u, _, _, rfl, .ty _, ty, kit_str kt, _, rfl, ?_⟩
    cases hs : isStr t with
    | true =>
      cases t with
      | oth _ => cases hs
      | tup _ => cases hs
      | str z =>
      cases hI.str_inv
      exact iteT ⟨_, rfl, (by show 1 ≤ sizeLine; decide), fun l hl => q l _ (same_upd hl _) hl upd_same⟩
    | false =>
    obtain ⟨a, w0, vs, ts, rfl, rfl, ea, hL, hTs⟩ := tm_tup_inv hI hS.tm hs
    have hlen := hL.len
    have c100 := (hS.mono h4).cnt4
    have lv100 := lvL_len ts
    rw [cnt_cons] at c100
    refine iteF ⟨(by show 0 ≤ sizeLine; decide), fun d0 hd0 => ?_⟩
    have s1 := same_upd hd0 (.lst [])
    refine ⟨_, rfl, _, rfl, a, _, rfl, (ea.same s1).sq, slice1, fun p1 hp1 => ?_⟩
    rw [cut1]
    have s2 := same_upd hp1 (.tup vs)
    refine ⟨p1, rfl, ⟨_, .inl (.inl upd_same)⟩, ?_⟩
    generalize hHb : upd (upd H d0 (.lst [])) p1 (.tup vs) = Hb at *
    have ed0 : Hb d0 = some (.lst []) := s2 _ _ upd_same
    have ep1 : Hb p1 = some (.tup vs) := by rw [← hHb]; exact upd_same
    have sb : Same H Hb := s1.trans s2
    refine for_tup (K := K) (a := p1) (xs := vs) (fun i σ H3 => ∃ d y, σ = [some (.ref a), some (.ref d), y] ∧ Same Hb H3 ∧ H d = none ∧ H3 d = some (.lst ((lvL (ts.take i)).map V.str))) ?_ ?_ ?_ ?_
    · exact ⟨d0, none, rfl, .refl _, hd0, ed0⟩
    · exact fun i σ H3 _ ⟨_, _, _, s3, _⟩ => .inl (.inl (s3 _ _ ep1))
    · rintro i x σ H3 hx ⟨d, y, rfl, s3, hd, ed⟩
      obtain ⟨tt, ett, it⟩ := hL.get hx
      refine ⟨_, rfl, _, rfl, x, tt, rfl, it.same (sb.trans s3), hS.2 tt (List.mem_of_getElem? ett), by omega, fun l H4 s4 hl el => ?_⟩
      have lb : (lvL (ts.take (i + 1))).length ≤ (lvL ts).length := by
        have := congrArg List.length (congrArg lvL (List.take_append_drop (i + 1) ts))
        rw [lvL_append, List.length_append] at this
        omega
      rw [lvL_take ett, List.length_append] at lb
      refine ⟨d, l, _, _, rfl, rfl, s4 _ _ ed, el, by rw [List.length_map, List.length_map]; exact Nat.le_of_lt (small1000 (by omega)), fun l3 hl3 => ?_⟩
      refine ⟨l3, _, rfl, (s3.trans s4).trans (same_upd hl3 _), ((sb.trans s3).trans s4).free hl3, ?_⟩
      rw [upd_same, lvL_take ett, List.map_append]
    · rintro σ H3 ⟨d, y, rfl, s3, hd, ed⟩
      rw [hlen, List.take_length] at ed
      exact ⟨_, rfl, q d H3 (sb.trans s3) hd ed⟩
theorem pair_not {mk : List (Str × Int)} {F : List Str} {t : PV} (h : rowB 2 t = false) : pairB mk F t = false := by
  unfold pairB
  split
  · simp [rowB] at h
  · rfl
theorem rows_row (n : Nat) (t : PV) : rowsB n n t = rowB n t := by
  cases t with
  | tup l =>
    simp only [rowsB, rowB]
    rw [Bool.eq_iff_iff]
    simp only [Bool.and_eq_true, decide_eq_true_eq]
    omega
  | str _ => rfl
  | oth _ => rfl
def spLPair : Sp := fun vs H Q _ => ∃ (m f : Addr) (mk : List (Str × Int)) (F : List Str) (v : V) (t : PV), vs = [.ref m, .ref f, v] ∧ MkAt H m mk ∧ mk.length ≤ 5 ∧ TupF H f (F.map V.str) ∧ Is H v t ∧ Ok 30 t ∧ ∀ H', Same H H' → Q (.bl (pairB mk F t)) H'
theorem ok_law_is_pair (T : Txt K mg) (G_law_row : FnOk P w K mg base CX0 1 T.a_law_row T.d_law_row ["value", "least", "most"] spLRow) (G_law_deep : FnOk P w K mg base CX0 30 T.a_law_deep T.d_law_deep ["makers", "value"] (spLDeep 29)) : FnOk P w K mg base CX0 31 T.a_law_is_pair T.d_law_is_pair ["makers", "families", "value"] spLPair := by
  refine T.F_law_is_pair.ok sc_law_is_pair (fun vs H Q E h => ?_) (fun cdv A outer s H vs Q E hr h => ?_)
  · obtain ⟨m, f, mk, F, v, t, rfl, _⟩ := h; rfl
  · obtain ⟨m, f, mk, F, v, t, rfl, hM, l5, ef, hI, hO, q⟩ := h
    have hr_law_row := hr.mono (show 1 ≤ 30 by decide)
    have hr_law_deep := hr
    refine ⟨_, (pss_cons (ps_if (PW.pt (pw_or (pt_not (pt_val (pe_call G_law_row hr_law_row rfl T.m_law_row T.F_law_row.kp T.b_law_row .nil pass0 (pa_cons (pv 2) (pa_cons pe_int (pa_cons pe_int pa_nil)))))) (pw_or (pt_not (pt_val (pe_callB call_isi (by rfl) T.z_isinstance (by decide +kernel) (pa_cons (pe_ix ix_tup (pv 2) pe_int (fun _ _ => rfl)) (pa_cons (pe_bltn rfl T.z_str (by decide +kernel) (show RelV (V.ty "str") (Value.type "str") from rfl)) pa_nil))))) (pw_or1 (pt_cmpR op_notIn_seq (pe_ix ix_tup (pv 2) pe_int (fun _ _ => rfl)) (pv 1) (by rfl)))))) (pss_one (ps_ret pe_bl)) pss_nil)
    (pss_one (ps_ret (pe_cmpR op_le (pe_call G_law_deep hr_law_deep rfl T.m_law_deep T.F_law_deep.kp T.b_law_deep .nil pass0 (pa_cons (pv 0) (pa_cons (pe_ix ix_tup (pv 2) pe_int (fun _ _ => rfl)) pa_nil))) pe_int (nomark _))))), ?_⟩
    have q0 := q H (.refl H)
    refine ⟨_, rfl, v, t, 2, 2, rfl, hI, _, rfl, ?_⟩
    rw [rows_row]
    cases hb : rowB 2 t with
    | false =>
      rw [pair_not hb] at q0
      exact iteT (iteT q0)
    | true =>
    obtain ⟨ta, tx, rfl⟩ := two_inv hb
    obtain ⟨p, va, vx, rfl, ep, ia, ix⟩ := hI.two
    obtain ⟨u, ty, kt⟩ := ia.ty (K := K)
    replace q : ∀ H', Same H H' → Q (.bl (inZ F ta && decide (ldeep mk tx ≤ 4))) H' := q
    replace q0 : Q (.bl (inZ F ta && decide (ldeep mk tx ≤ 4))) H := q0
    refine iteF ⟨_, rfl, p, _, _, _, rfl, rfl, ep.sq, atI_nat (j := 0) rfl, _, _, u, _, _, rfl, .ty _, ty, kit_str kt, _, rfl, ?_⟩
    cases ta with
    | oth _ => exact iteT (iteT q0)
    | tup _ => exact iteT (iteT q0)
    | str z =>
    cases ia.str_inv
    refine iteF ⟨_, rfl, p, _, _, _, rfl, rfl, ep.sq, atI_nat (j := 0) rfl, _, rfl, f, _, rfl, .inr ef.sq, rfl, flat_str F, _, rfl, ?_⟩
    rw [inV_str]
    rw [show inZ F (.str z) = decide (z ∈ F) from rfl] at q q0
    by_cases hz : z ∈ F
    case neg =>
      rw [decide_eq_false hz] at q0 ⊢
      exact iteT q0
    rw [decide_eq_true hz] at q ⊢
    refine iteF ⟨_, rfl, _, rfl, p, _, _, _, rfl, rfl, ep.sq, atI_nat (j := 1) rfl, m, mk, vx, tx, rfl, hM, l5, ix, hO.mem (by simp), fun H1 s1 => ⟨_, _, rfl, rfl, ?_⟩⟩
    show Q (.bl (decide ((ldeep mk tx : Int) ≤ 4))) H1
    rw [show decide ((ldeep mk tx : Int) ≤ 4) = decide (ldeep mk tx ≤ 4) from decide_eq_decide.mpr (by omega)]
    exact q H1 s1
end
end Kx
namespace Kx
open PySem PySem.Spec PyProof.Rows L2
section
variable {P : Program} {w : World} {K : PySem.W.Frag} {mg : Str → Option Value} {base : Heap}
set_option pp.maxSteps 900
/-! ### the law's constructors -/
theorem lcon_not {mk : List (Str × Int)} {F : List Str} {t : PV} (h : rowB 4 t = false) : lconB mk F t = false := by
  unfold lconB
  split
  · simp [rowB] at h
  · rfl
theorem told_dd (ps : List PV) : told ps = dd [] (lvL (ps.map snd2)) := nmsL_eq _ _
theorem pair_inv {mk : List (Str × Int)} {F : List Str} (G : MkG mk) {t : PV} (h : pairB mk F t = true) : ∃ a x, t = .tup [a, x] ∧ Sm 4 x := by
  have h0 := h
  unfold pairB at h
  split at h
  · rename_i a x
    exact ⟨a, x, rfl, pair_tm (fun m hm => (G.row m hm).2.2) h0⟩
  · cases h
theorem lflat_tm {ix : PV} (h : Tm ix) : lflat ix = (isStr ix || (match ix with | .tup (_ :: r) => r.all isStr | _ => false)) := by
  cases ix with
  | str _ => rfl
  | oth _ => exact absurd h id
  | tup l => cases l <;> rfl
def spLCon : Sp := fun vs H Q _ => ∃ (m f : Addr) (mk : List (Str × Int)) (F : List Str) (v : V) (t : PV), vs = [.ref m, .ref f, v] ∧ MkAt H m mk ∧ MkG mk ∧ TupF H f (F.map V.str) ∧ Is H v t ∧ Ok 30 t ∧ ∀ H', Same H H' → Q (.bl (lconB mk F t)) H'
theorem ok_law_is_constructor (T : Txt K mg) (G_law_row : FnOk P w K mg base CX0 1 T.a_law_row T.d_law_row ["value", "least", "most"] spLRow) (G_law_is_word : FnOk P w K mg base CX0 1 T.a_law_is_word T.d_law_is_word ["value"] spLWord) (G_law_is_pair : FnOk P w K mg base CX0 31 T.a_law_is_pair T.d_law_is_pair ["makers", "families", "value"] spLPair) (G_law_names : FnOk P w K mg base CX0 5 T.a_law_names T.d_law_names ["term"] (spLNames 4)) : FnOk P w K mg base CX0 32 T.a_law_is_constructor T.d_law_is_constructor ["makers", "families", "value"] spLCon := by
  refine T.F_law_is_constructor.ok sc_law_is_constructor (fun vs H Q E h => ?_) (fun cdv A outer s H vs Q E hr h => ?_)
  · obtain ⟨m, f, mk, F, v, t, rfl, _⟩ := h; rfl
  · obtain ⟨m, f, mk, F, v, t, rfl, hM, hG, ef, hI, hO, q⟩ := h
    have hr_law_row := hr.mono (show 1 ≤ 31 by decide)
    have hr_law_is_word := hr.mono (show 1 ≤ 31 by decide)
    have hr_law_is_pair := hr
    have hr_law_names := hr.mono (show 5 ≤ 31 by decide)
    refine ⟨_, (pss_cons (ps_if (PW.pt (pw_or (pt_not (pt_val (pe_call G_law_row hr_law_row rfl T.m_law_row T.F_law_row.kp T.b_law_row .nil pass0 (pa_cons (pv 2) (pa_cons pe_int (pa_cons pe_int pa_nil)))))) (pw_or (pt_not (pt_val (pe_call G_law_is_word hr_law_is_word rfl T.m_law_is_word T.F_law_is_word.kp T.b_law_is_word .nil pass0 (pa_cons (pe_ix ix_tup (pv 2) pe_int (fun _ _ => rfl)) pa_nil)))) (pw_or1 (pt_not (pt_val (pe_call G_law_row hr_law_row rfl T.m_law_row T.F_law_row.kp T.b_law_row .nil pass0 (pa_cons (pe_ix ix_tup (pv 2) pe_int (fun _ _ => rfl)) (pa_cons pe_int (pa_cons pe_int pa_nil)))))))))) (pss_one (ps_ret pe_bl)) pss_nil)
    (pss_cons (ps_if (pt_cmpR op_in_seq pe_bl (pe_lc (own := [("pair", 3)]) (g := (gName 3)) (tt := tYes) rfl sc_law_is_constructor.nd (pi_tup (pe_ix ix_tup (pv 2) pe_int (fun _ _ => rfl))) (blkOk_by (own := [("pair", 3)]) (N := ["makers", "families", "value", "pair", "told", "name", "made", "part"]) (sc := defScope s_law_is_constructor) (by decide +kernel)) (fun _ _ _ _ _ => (pg_name (i := 3) sc_law_is_constructor.nd rfl (Or.inl rfl))) (fun _ _ _ _ _ => pts_nil) (fun _ _ _ _ _ => (pe_call G_law_is_pair hr_law_is_pair rfl T.m_law_is_pair T.F_law_is_pair.kp T.b_law_is_pair .nil pass0 (pa_cons (pv 0) (pa_cons (pv 1) (pa_cons (pv 3) pa_nil)))))) (by rfl)) (pss_one (ps_ret pe_bl)) pss_nil)
    (pss_cons (ps_if (pt_not (pt_val (pe_call G_law_is_pair hr_law_is_pair rfl T.m_law_is_pair T.F_law_is_pair.kp T.b_law_is_pair .nil pass0 (pa_cons (pv 0) (pa_cons (pv 1) (pa_cons (pe_slice sl_tupG (pv 2) (po_some pe_int) po_none) pa_nil)))))) (pss_one (ps_ret pe_bl)) pss_nil)
    (pss_cons (ps_set (i := 4) sc_law_is_constructor.nd rfl (Or.inr rfl) (pe_lst pa_nil))
    (pss_cons (ps_for PassesOwn.never rfl (pi_tup (pe_ix ix_tup (pv 2) pe_int (fun _ _ => rfl))) (pg_name (i := 3) sc_law_is_constructor.nd rfl (Or.inl rfl))
    (pss_one (ps_for PassesOwn.never rfl (pi_list (pe_call G_law_names hr_law_names rfl T.m_law_names T.F_law_names.kp T.b_law_names .nil pass0 (pa_cons (pe_ix ix_tup (pv 3) pe_int (fun _ _ => rfl)) pa_nil))) (pg_name (i := 5) sc_law_is_constructor.nd rfl (Or.inl rfl))
    (pss_one (ps_if (pt_cmpR op_notIn_seq (pv 5) (pv 4) (by rfl)) (pss_one (ps_expr (pe_bm PySem.F.plainAttrs_list PySem.F.slot_list_append PySem.F.type_list_append mt_append (pv 4) (pa_cons (pv 5) pa_nil)))) pss_nil)))))
    (pss_cons (ps_set (i := 6) sc_law_is_constructor.nd rfl (Or.inr rfl) (pe_call G_law_names hr_law_names rfl T.m_law_names T.F_law_names.kp T.b_law_names .nil pass0 (pa_cons (pe_ix ix_tup (pv 2) pe_int (fun _ _ => rfl)) pa_nil)))
    (pss_cons (ps_if (PW.pt (pw_or (pt_cmpR op_gt (pe_callB call_len_seq (by rfl) T.z_len (by decide +kernel) (pa_cons (pv 4) pa_nil)) pe_int (nomark _)) (pw_or1 (pt_cmpR op_gt (pe_callB call_len_seq (by rfl) T.z_len (by decide +kernel) (pa_cons (pe_lc (own := [("name", 5)]) (g := (gName 5)) rfl sc_law_is_constructor.nd (pi_list (pv 6)) (blkOk_by (own := [("name", 5)]) (N := ["makers", "families", "value", "pair", "told", "name", "made", "part"]) (sc := defScope s_law_is_constructor) (by decide +kernel)) (fun _ _ _ _ _ => (pg_name (i := 5) sc_law_is_constructor.nd rfl (Or.inl rfl))) (fun _ _ _ _ _ => pts_one (PW.pt (pw_or (pt_cmpR (notInSeqK (K := K)) (pv 5) (pv 4) (by rfl)) (pw_or1 (pt_cmpR op_gt (pe_bmK (K := K) PySem.F.plainAttrs_list PySem.F.slot_list_count PySem.F.type_list_count (mt_countZ (K := K)) (pv 6) (pa_cons (pv 5) pa_nil)) pe_int (nomark _)))))) (fun _ _ _ _ _ => (pv 5))) pa_nil)) pe_int (nomark _))))) (pss_one (ps_ret pe_bl)) pss_nil)
    (pss_one (ps_ret (pe_or (pe_callB call_isi (by rfl) T.z_isinstance (by decide +kernel) (pa_cons (pe_ix ix_tup (pv 2) pe_int (fun _ _ => rfl)) (pa_cons (pe_bltn rfl T.z_str (by decide +kernel) (show RelV (V.ty "str") (Value.type "str") from rfl)) pa_nil))) (pe_one (pe_cmpR op_eq (pe_callB call_len_seq (by rfl) T.z_len (by decide +kernel) (pa_cons (pe_lc (own := [("part", 7)]) (g := (gName 7)) rfl sc_law_is_constructor.nd (pi_tup (pe_slice sl_tupG (pe_ix ix_tup (pv 2) pe_int (fun _ _ => rfl)) (po_some pe_int) po_none)) (blkOk_by (own := [("part", 7)]) (N := ["makers", "families", "value", "pair", "told", "name", "made", "part"]) (sc := defScope s_law_is_constructor) (by decide +kernel)) (fun _ _ _ _ _ => (pg_name (i := 7) sc_law_is_constructor.nd rfl (Or.inl rfl))) (fun _ _ _ _ _ => pts_one (pt_not (pt_val (pe_callB (isiK (K := K)) (by rfl) T.z_isinstance (by decide +kernel) (pa_cons (pv 7) (pa_cons (pe_bltn rfl T.z_str (by decide +kernel) (show RelV (V.ty "str") (Value.type "str") from rfl)) pa_nil)))))) (fun _ _ _ _ _ => (pv 7))) pa_nil)) pe_int (nomark _))))))))))))), ?_⟩
    have q0 := q H (.refl H)
    refine ⟨_, rfl, v, t, 4, 4, rfl, hI, _, rfl, ?_⟩
    rw [rows_row]
    cases hb : rowB 4 t with
    | false =>
      rw [lcon_not hb] at q0
      exact iteT (iteT q0)
    | true =>
    obtain ⟨cw, cp, cf, cx, rfl⟩ := four_inv hb
    obtain ⟨p, vw, vp, vf, vx, rfl, ep, iw, ip, iF, ix⟩ := hI.four
    refine iteF ⟨_, rfl, p, _, _, _, rfl, rfl, ep.sq, atI_nat (j := 0) rfl, vw, cw, 29, rfl, iw, hO.mem (by simp), fun H1 s1 => ⟨_, rfl, ?_⟩⟩
    have noW : wordB cw = false → lconB mk F (.tup [cw, cp, cf, cx]) = false := fun h => by
      cases cp <;> simp [lconB, h]
    have ep1 := ep.same s1
    cases hw : wordB cw with
    | false =>
      have := q H1 s1
      rw [noW hw] at this
      exact iteT (iteT this)
    | true =>
    refine iteF ⟨_, rfl, p, _, _, _, rfl, rfl, ep1.sq, atI_nat (j := 1) rfl, vp, cp, 0, 3, rfl, ip.same s1, _, rfl, ?_⟩
    cases cp with
    | str _ => exact iteT (q H1 s1)
    | oth _ => exact iteT (q H1 s1)
    | tup ps =>
    obtain ⟨pp, pus, rfl, epp, hL⟩ := ip.tup_inv
    have hlen := hL.len
    replace q : ∀ H', Same H H' → Q (.bl (wordB cw && (decide (ps.length ≤ 3) && (ps.all (pairB mk F) && pairB mk F (.tup [cf, cx]) && (ltoldB ps cx && lflat cx))))) H' := q
    rw [hw] at q
    rw [show rowsB 0 3 (.tup ps) = decide (ps.length ≤ 3) by simp [rowsB]]
    by_cases h3 : ps.length ≤ 3
    case neg =>
      have := q H1 s1
      rw [decide_eq_false h3] at this ⊢
      exact iteT this
    rw [decide_eq_true h3] at q ⊢
    have okp : Ok 29 (.tup ps) := hO.mem (by simp)
    refine iteF ⟨_, rfl, p, _, _, _, rfl, rfl, ep1.sq, atI_nat (j := 1) rfl, pp, rfl, ⟨_, (epp.same s1).sq⟩, fun D hD => ?_⟩
    refine lc_tup (K := K) (a := pp) (xs := pus) (fun i H2 => Same H1 H2 ∧ H2 D = some (.lst (((ps.take i).map (pairB mk F)).map V.bl))) ?_ ?_ ?_ ?_
    · exact ⟨same_upd hD _, upd_same⟩
    · exact fun i H2 _ ⟨sm, _⟩ => (epp.same (s1.trans sm)).sq
    · rintro i x H2 hx ⟨sm, eD⟩
      obtain ⟨tt, ett, it⟩ := hL.get hx
      have s2 := s1.trans sm
      refine ⟨rfl, yes_if ⟨_, rfl, _, rfl, _, rfl, m, f, mk, F, x, tt, rfl, hM.same s2, hG.l5, ef.same s2, it.same s2, (okp.mem (List.mem_of_getElem? ett)).mono (by decide), fun H3 s3 => ⟨_, s3 _ _ eD, small1000 (by simp only [List.length_map, List.length_take]; omega), Kx.Same.own (sm.trans s3) hD _, ?_⟩⟩⟩
      rw [upd_same, take_add ett, List.map_append, List.map_append]; rfl
    rintro H2 ⟨sm2, eD⟩
    rw [hlen, List.take_length] at eD
    have s2 := s1.trans sm2
    refine ⟨D, _, rfl, .inl (SqL.of eD), rfl, flat_bl _, _, rfl, ?_⟩
    rw [inV_bl]
    cases hall : ps.all (pairB mk F) with
    | false =>
      have e1 : ((ps.map (pairB mk F)).any fun n => n == false) = true := by
        obtain ⟨x, hx, e⟩ := List.all_eq_false.mp hall
        refine List.any_eq_true.mpr ⟨_, List.mem_map.mpr ⟨x, hx, rfl⟩, ?_⟩
        simpa using e
      rw [e1]
      have := q H2 s2
      rw [hall] at this
      exact iteT this
    | true =>
    have e1 : ((ps.map (pairB mk F)).any fun n => n == false) = false := by
      refine List.any_eq_false.mpr fun n hn => ?_
      obtain ⟨x, hx, rfl⟩ := List.mem_map.mp hn
      rw [List.all_eq_true.mp hall x hx]
      decide
    rw [e1]
    rw [hall] at q
    refine iteF ?_
    have ep2 := ep.same s2
    refine ⟨_, rfl, _, rfl, _, rfl, _, rfl, p, _, rfl, ep2, fun p3 H3 s3 e3 => ?_⟩
    have e3' : TupF H3 p3 [vf, vx] := by
      have e := cut_from [vw, V.ref pp, vf, vx] (k := 2) (by simp)
      have e4 := e3
      rw [show cutV [vw, V.ref pp, vf, vx] (some 2) none = [vf, vx] from e] at e4
      exact e4
    have s3' := s2.trans s3
    have opr : Ok 30 (.tup [cf, cx]) := by
      refine ⟨by simp, fun t ht => ?_⟩
      simp only [List.mem_cons, List.not_mem_nil, or_false] at ht
      rcases ht with rfl | rfl <;> exact hO.mem (by simp)
    refine ⟨m, f, mk, F, .ref p3, .tup [cf, cx], rfl, hM.same s3', hG.l5, ef.same s3', .tup e3' (.cons (iF.same s3') (.cons (ix.same s3') .nil)), opr, fun H4 s4 => ⟨_, rfl, ?_⟩⟩
    have s4' := s3'.trans s4
    cases hpr : pairB mk F (.tup [cf, cx]) with
    | false =>
      have := q H4 s4'
      rw [hpr] at this
      exact iteT this
    | true =>
    rw [hpr] at q
    replace q : ∀ H', Same H H' → Q (.bl (ltoldB ps cx && lflat cx)) H' := q
    have smx : Sm 4 cx := pair_tm (fun m hm => (hG.row m hm).2.2) hpr
    have G : PsG ps := ⟨h3, fun t ht => pair_inv hG (List.all_eq_true.mp hall t ht)⟩
    refine iteF ⟨(by show 0 ≤ sizeLine; decide), fun fa hf => ?_⟩
    have s5 := same_upd hf (.lst [])
    have s5' := s4'.trans s5
    have hfH : H fa = none := s4'.free hf
    refine ⟨_, rfl, p, _, _, _, rfl, rfl, (ep.same s5').sq, atI_nat (j := 1) rfl, pp, rfl, ⟨_, (epp.same s5').sq⟩, ?_⟩
    have tl : ∀ i, (dd [] (lvL ((ps.map snd2).take i))).length ≤ 300 := fun i => by
      have := nmsL_len (l := (ps.map snd2).take i) (fun t ht => by
        obtain ⟨q, hq, rfl⟩ := List.mem_map.mp (List.mem_of_mem_take ht)
        obtain ⟨a, x, rfl, h⟩ := G.2 q hq
        exact h.cnt4) (f := [])
      rw [nmsL_eq] at this
      rw [List.length_take, List.length_map] at this
      simp only [List.length_nil] at this
      omega
    refine for_tup (K := K) (a := pp) (xs := pus) (fun i σ H6 => ∃ y3 y5, σ = [some (.ref m), some (.ref f), some (.ref p), y3, some (.ref fa), y5, none, none] ∧ Same H H6 ∧ H6 fa = some (.lst ((dd [] (lvL ((ps.map snd2).take i))).map V.str))) ?_ ?_ ?_ ?_
    · exact ⟨none, none, rfl, s5', upd_same⟩
    · exact fun i σ H6 _ ⟨_, _, _, sm, _⟩ => (epp.same sm).sq
    · rintro i x σ H6 hx ⟨y3, y5, rfl, sm, eF⟩
      obtain ⟨tt, ett, it⟩ := hL.get hx
      obtain ⟨a, x', rfl, hS⟩ := G.2 tt (List.mem_of_getElem? ett)
      obtain ⟨p2, va, vx', rfl, ep2, ia, ix'⟩ := (it.same sm).two
      have es2 : (ps.map snd2)[i]? = some x' := by rw [List.getElem?_map, ett]; rfl
      refine ⟨_, rfl, p2, _, _, _, rfl, rfl, ep2.sq, atI_nat (j := 1) rfl, vx', x', rfl, ix', hS, by decide, fun l H7 s7 hl el => ⟨l, rfl, ⟨_, SqL.of el⟩, ?_⟩⟩
      have sm7 := sm.trans s7
      have eF7 := s7 _ _ eF
      have nl : l ≠ fa := (ne_of_none eF hl).symm
      have lenN : (lv x').length ≤ 100 := Nat.le_trans (lv_len x') hS.cnt4
      have lenF := tl i
      refine for_list (K := K) (a := l) (xs := (lv x').map V.str) (fun j σ H8 => ∃ y5, σ = [some (.ref m), some (.ref f), some (.ref p), some (.ref p2), some (.ref fa), y5, none, none] ∧ Same H H8 ∧ H8 l = some (.lst ((lv x').map V.str)) ∧ H8 fa = some (.lst ((dd (dd [] (lvL ((ps.map snd2).take i))) ((lv x').take j)).map V.str))) ?_ ?_ ?_ ?_
      · exact ⟨_, rfl, sm7, el, eF7⟩
      · exact fun j σ H8 _ ⟨_, _, _, el, _⟩ => SqL.of el
      · rintro j y σ H8 hy ⟨y5, rfl, sm8, el8, ef8⟩
        rw [List.getElem?_map] at hy
        obtain ⟨z, ez, rfl⟩ := Option.map_eq_some_iff.mp hy
        refine ⟨_, rfl, _, rfl, fa, _, rfl, .inl (SqL.of ef8), rfl, flat_str _, _, rfl, ?_⟩
        rw [inV_str]
        have lenD := dd_len ((lv x').take j) (dd [] (lvL ((ps.map snd2).take i)))
        rw [List.length_take] at lenD
        refine ite2 (fun c2 => ?_) (fun c2 => ?_)
        · have nz : z ∉ dd (dd [] (lvL ((ps.map snd2).take i))) ((lv x').take j) := by simpa using c2
          refine ⟨_, rfl, .inl ⟨rfl, _, SqL.of ef8⟩, _, rfl, fa, _, _, rfl, rfl, ef8, ?_, ?_⟩
          · rw [List.length_map]; exact small1000 (by omega)
          · refine ⟨_, rfl, Kx.Same.own sm8 hfH _, by rw [upd_ne nl]; exact el8, ?_⟩
            rw [upd_same, dd_snoc' ez, add1, if_neg nz, List.map_append]; rfl
        · have nz : z ∈ dd (dd [] (lvL ((ps.map snd2).take i))) ((lv x').take j) := by simpa using c2
          refine ⟨_, rfl, sm8, el8, ?_⟩
          rw [dd_snoc' ez, add1, if_pos nz]; exact ef8
      · rintro σ H8 ⟨y5, rfl, sm8, el8, ef8⟩
        refine ⟨_, _, rfl, sm8, ?_⟩
        rw [List.length_map, List.take_length, ← dd_append, ← lvL_take es2] at ef8
        exact ef8
    rintro σ H6 ⟨y3, y5, rfl, sm6, eF⟩
    rw [hlen, show (ps.map snd2).take ps.length = ps.map snd2 by rw [← List.length_map (f := snd2), List.take_length], ← told_dd] at eF
    refine ⟨_, rfl, p, _, _, _, rfl, rfl, (ep.same sm6).sq, atI_nat (j := 3) rfl, vx, cx, rfl, ix.same sm6, smx, by decide, fun ml H7 s7 hml el7 => ?_⟩
    have sm7 := sm6.trans s7
    have eF7 := s7 _ _ eF
    have lt := told_len G
    refine ⟨_, rfl, fa, _, rfl, .inl (SqL.of eF7), _, _, rfl, rfl, _, rfl, ite2 (fun c1 => ?_) (fun c1 => ?_)⟩
    · have e9 : decide ((told ps).length ≤ 4) = false := decide_eq_false fun h => by
        have := of_decide_eq_true c1
        rw [List.length_map] at this
        omega
      have := q H7 sm7
      unfold ltoldB at this
      rw [e9] at this
      exact iteT this
    have l4 : (told ps).length ≤ 4 := Nat.not_lt.mp fun h => c1 (decide_eq_true (by rw [List.length_map]; omega))
    unfold ltoldB at q
    rw [decide_eq_true l4] at q
    have lenM : (lv cx).length ≤ 100 := Nat.le_trans (lv_len cx) smx.cnt4
    refine ⟨_, rfl, ml, rfl, ⟨_, SqL.of el7⟩, fun D2 hD2 => ?_⟩
    have nD : ml ≠ D2 := (ne_of_none el7 hD2)
    refine lc_list (K := K) (a := ml) (xs := (lv cx).map V.str) (fun i H8 => ∃ acc, Same H7 H8 ∧ H8 D2 = some (.lst acc) ∧ acc.length ≤ i ∧ (acc.length == 0) = ((lv cx).take i).all fun z => decide (z ∈ told ps) && decide ((lv cx).count z ≤ 1)) ?_ ?_ ?_ ?_
    · exact ⟨[], same_upd hD2 _, upd_same, Nat.le_refl _, rfl⟩
    · exact fun i H8 _ ⟨_, s8, _⟩ => SqL.of (s8 _ _ el7)
    · rintro i y H8 hy ⟨acc, s8, eD8, hle, hall8⟩
      rw [List.getElem?_map] at hy
      obtain ⟨z, ez, rfl⟩ := Option.map_eq_some_iff.mp hy
      have hi := (List.getElem?_eq_some_iff.mp ez).1
      have tk : (((lv cx).take (i + 1)).all fun z => decide (z ∈ told ps) && decide ((lv cx).count z ≤ 1)) = ((((lv cx).take i).all fun z => decide (z ∈ told ps) && decide ((lv cx).count z ≤ 1)) && (decide (z ∈ told ps) && decide ((lv cx).count z ≤ 1))) := by
        rw [take_add ez, List.all_append]; simp
      have yes : (decide (z ∈ told ps) && decide ((lv cx).count z ≤ 1)) = true → ∃ acc, Same H7 H8 ∧ H8 D2 = some (.lst acc) ∧ acc.length ≤ i + 1 ∧ (acc.length == 0) = ((lv cx).take (i + 1)).all fun z => decide (z ∈ told ps) && decide ((lv cx).count z ≤ 1) := fun h => ⟨acc, s8, eD8, by omega, by rw [tk, h, Bool.and_true]; exact hall8⟩
      have no : (decide (z ∈ told ps) && decide ((lv cx).count z ≤ 1)) = false → ∃ acc, H8 D2 = some (.lst acc) ∧ acc.length < sizeLine ∧ ∃ acc_1, Same H7 (upd H8 D2 (.lst (acc ++ [V.str z]))) ∧ upd H8 D2 (.lst (acc ++ [V.str z])) D2 = some (.lst acc_1) ∧ acc_1.length ≤ i + 1 ∧ (acc_1.length == 0) = ((lv cx).take (i + 1)).all fun z => decide (z ∈ told ps) && decide ((lv cx).count z ≤ 1) := fun h =>
        ⟨acc, eD8, small1000 (by omega), acc ++ [.str z], Kx.Same.own s8 hD2 _, upd_same, by rw [List.length_append, List.length_singleton]; omega, by rw [tk, h, Bool.and_false, List.length_append]; simp⟩
      refine ⟨rfl, _, rfl, _, rfl, fa, _, rfl, .inl (SqL.of (s8 _ _ eF7)), rfl, flat_str _, _, rfl, ?_⟩
      rw [inV_str]
      by_cases hz : z ∈ told ps
      case neg =>
        rw [decide_eq_false hz] at no ⊢
        exact iteT (iteT ⟨_, rfl, no rfl⟩)
      rw [decide_eq_true hz] at no yes ⊢
      refine iteF ⟨_, rfl, .inl ⟨rfl, _, SqL.of (s8 _ _ el7)⟩, _, rfl, ml, lv cx, z, rfl, rfl, SqL.of (s8 _ _ el7), _, _, rfl, rfl, _, rfl, ?_⟩
      show ite (decide ((1 : Int) < (((lv cx).count z : Nat) : Int)) = true) _ _
      by_cases hc : (lv cx).count z ≤ 1
      · rw [decide_eq_false (show ¬ (1 : Int) < (((lv cx).count z : Nat) : Int) by omega)]
        exact iteF (yes (by rw [decide_eq_true hc]; rfl))
      · rw [decide_eq_true (show (1 : Int) < (((lv cx).count z : Nat) : Int) by omega)]
        exact iteT ⟨_, rfl, no (by rw [decide_eq_false hc]; rfl)⟩
    rintro H8 ⟨acc, s8, eD8, hle, hall8⟩
    rw [List.length_map, List.take_length] at hall8
    have sm8 := sm7.trans s8
    refine ⟨D2, acc, rfl, .inl (SqL.of eD8), _, _, rfl, rfl, _, rfl, ite2 (fun c2 => ?_) (fun c2 => ?_)⟩
    · have e9 : (acc.length == 0) = false := beq_eq_false_iff_ne.mpr fun h => by
        have := of_decide_eq_true c2
        omega
      rw [e9] at hall8
      have := q H8 sm8
      rw [← hall8] at this
      exact this
    have e9 : (acc.length == 0) = true := by
      refine beq_iff_eq.mpr (Classical.byContradiction fun h => c2 (decide_eq_true ?_))
      omega
    rw [e9] at hall8
    rw [← hall8] at q
    replace q : ∀ H', Same H H' → Q (.bl (lflat cx)) H' := q
    have ix8 := ix.same sm8
    have ep8 := ep.same sm8
    obtain ⟨ux, tyx, ktx⟩ := ix8.ty (K := K)
    refine ⟨_, rfl, p, _, _, _, rfl, rfl, ep8.sq, atI_nat (j := 3) rfl, _, _, ux, _, _, rfl, .ty _, tyx, kit_str ktx, _, rfl, ?_⟩
    cases hs : isStr cx with
    | true =>
      cases cx with
      | str z => exact iteT (q H8 sm8)
      | oth _ => cases hs
      | tup _ => cases hs
    | false =>
    obtain ⟨xa, w0, xvs, xts, rfl, rfl, exa, xL, hTs⟩ := tm_tup_inv ix8 smx.tm hs
    have l2 : xts.length ≤ 2 := smx.1
    replace q : ∀ H', Same H H' → Q (.bl (xts.all isStr)) H' := q
    refine iteF ⟨_, rfl, p, _, _, _, rfl, rfl, ep8.sq, atI_nat (j := 3) rfl, _, rfl, xa, _, rfl, exa, fun p4 H9 s9 e9 => ?_⟩
    rw [cut1] at e9
    refine ⟨p4, rfl, ⟨_, e9.sq⟩, fun D3 hD3 => ?_⟩
    refine lc_tup (K := K) (a := p4) (xs := xvs) (fun i H10 => ∃ acc, Same H9 H10 ∧ H10 D3 = some (.lst acc) ∧ acc.length ≤ i ∧ (acc.length == 0) = (xts.take i).all isStr) ?_ ?_ ?_ ?_
    · exact ⟨[], same_upd hD3 _, upd_same, Nat.le_refl _, rfl⟩
    · exact fun i H10 _ ⟨_, s10, _⟩ => (e9.same s10).sq
    · rintro i y H10 hy ⟨acc, s10, eD, hle, hall10⟩
      obtain ⟨tt, ett, it⟩ := xL.get hy
      have hi := (List.getElem?_eq_some_iff.mp ett).1
      obtain ⟨u2, ty2, kt2⟩ := (it.same (s9.trans s10)).ty (K := K)
      have tk : (xts.take (i + 1)).all isStr = ((xts.take i).all isStr && isStr tt) := by
        rw [take_add ett, List.all_append]; simp
      refine ⟨rfl, _, rfl, _, _, u2, _, _, rfl, .ty _, ty2, kit_str kt2, _, rfl, ?_⟩
      cases h2 : isStr tt with
      | true => exact iteF ⟨acc, s10, eD, by omega, by rw [tk, h2, Bool.and_true]; exact hall10⟩
      | false =>
        refine iteT ⟨_, rfl, acc, eD, small1000 (by omega), acc ++ [y], Kx.Same.own s10 hD3 _, upd_same, by rw [List.length_append, List.length_singleton]; omega, ?_⟩
        rw [tk, h2, Bool.and_false, List.length_append]; simp
    rintro H10 ⟨acc, s10, eD, hle, hall10⟩
    rw [xL.len, List.take_length] at hall10
    refine ⟨D3, acc, rfl, .inl (SqL.of eD), rfl, ?_⟩
    rw [len0, hall10]
    exact q H10 ((sm8.trans s9).trans s10)
end
end Kx
namespace Kx
open PySem PySem.Spec PyProof.Rows L2
section
variable {P : Program} {w : World} {K : PySem.W.Frag} {mg : Str → Option Value} {base : Heap}
set_option pp.maxSteps 900
/-! ### the law's tables -/
theorem lcon_hd {mk : List (Str × Int)} {F : List Str} {t : PV} (h : lconB mk F t = true) : HdG t := by
  unfold lconB at h
  split at h
  · rename_i w ps f ix
    simp only [Bool.and_eq_true] at h
    obtain ⟨e, _⟩ := word_inv h.1
    rw [e]
    exact ⟨_, rfl⟩
  · cases h
theorem lawT_not {t : PV} (h : rowB 4 t = false) : lawT t = false := by
  unfold lawT
  split
  · simp [rowB] at h
  · rfl
theorem any_not {α : Type} {p : α → Bool} {l : List α} : ((l.map p).any fun n => n == false) = !l.all p := by
  induction l with
  | nil => rfl
  | cons a r ih => rw [List.map_cons, List.any_cons, ih, List.all_cons]; cases p a <;> simp
theorem once_nd (ws : List Str) : (ws.all fun z => decide (ws.count z ≤ 1)) = decide ws.Nodup := by
  rw [Bool.eq_iff_iff]
  simp only [List.all_eq_true, decide_eq_true_eq, List.nodup_iff_count]
  constructor
  · intro h z
    by_cases hz : z ∈ ws
    · exact h z hz
    · rw [List.count_eq_zero_of_not_mem hz]; omega
  · intro h z _; exact h z
def spLTab : Sp := fun vs H Q _ => ∃ v t, vs = [v] ∧ Is H v t ∧ Ok 32 t ∧ ∀ H', Same H H' → Q (.bl (lawT t)) H'
theorem ok_law_is_table (T : Txt K mg) (G_law_row : FnOk P w K mg base CX0 1 T.a_law_row T.d_law_row ["value", "least", "most"] spLRow) (G_law_is_makers : FnOk P w K mg base CX0 2 T.a_law_is_makers T.d_law_is_makers ["value"] spLMakers) (G_law_is_word : FnOk P w K mg base CX0 1 T.a_law_is_word T.d_law_is_word ["value"] spLWord) (G_law_is_constructor : FnOk P w K mg base CX0 32 T.a_law_is_constructor T.d_law_is_constructor ["makers", "families", "value"] spLCon) : FnOk P w K mg base CX0 33 T.a_law_is_table T.d_law_is_table ["value"] spLTab := by
  refine T.F_law_is_table.ok sc_law_is_table (fun vs H Q E h => ?_) (fun cdv A outer s H vs Q E hr h => ?_)
  · obtain ⟨v, t, rfl, _⟩ := h; rfl
  · obtain ⟨v, t, rfl, hI, hO, q⟩ := h
    have hr_law_row := hr.mono (show 1 ≤ 32 by decide)
    have hr_law_is_makers := hr.mono (show 2 ≤ 32 by decide)
    have hr_law_is_word := hr.mono (show 1 ≤ 32 by decide)
    have hr_law_is_constructor := hr
    refine ⟨_, (pss_cons (ps_if (PW.pt (pw_or (pt_not (pt_val (pe_call G_law_row hr_law_row rfl T.m_law_row T.F_law_row.kp T.b_law_row .nil pass0 (pa_cons (pv 0) (pa_cons pe_int (pa_cons pe_int pa_nil)))))) (pw_or (pt_not (pt_val (pe_callB call_isi (by rfl) T.z_isinstance (by decide +kernel) (pa_cons (pe_ix ix_tup (pv 0) pe_int (fun _ _ => rfl)) (pa_cons (pe_bltn rfl T.z_str (by decide +kernel) (show RelV (V.ty "str") (Value.type "str") from rfl)) pa_nil))))) (pw_or1 (pt_cmpR (op_neZ (u0 hr)) (pe_ix ix_tup (pv 0) pe_int (fun _ _ => rfl)) pe_str (nomark _)))))) (pss_one (ps_ret pe_bl)) pss_nil)
    (pss_cons (ps_if (PW.pt (pw_or (pt_not (pt_val (pe_call G_law_is_makers hr_law_is_makers rfl T.m_law_is_makers T.F_law_is_makers.kp T.b_law_is_makers .nil pass0 (pa_cons (pe_ix ix_tup (pv 0) pe_int (fun _ _ => rfl)) pa_nil)))) (pw_or (pt_not (pt_val (pe_call G_law_row hr_law_row rfl T.m_law_row T.F_law_row.kp T.b_law_row .nil pass0 (pa_cons (pe_ix ix_tup (pv 0) pe_int (fun _ _ => rfl)) (pa_cons pe_int (pa_cons pe_int pa_nil)))))) (pw_or1 (pt_not (pt_val (pe_call G_law_row hr_law_row rfl T.m_law_row T.F_law_row.kp T.b_law_row .nil pass0 (pa_cons (pe_ix ix_tup (pv 0) pe_int (fun _ _ => rfl)) (pa_cons pe_int (pa_cons pe_int pa_nil)))))))))) (pss_one (ps_ret pe_bl)) pss_nil)
    (pss_cons (ps_if (pt_cmpR op_in_seq pe_bl (pe_lc (own := [("word", 2)]) (g := (gName 2)) (tt := tYes) rfl sc_law_is_table.nd (pi_tup (pe_ix ix_tup (pv 0) pe_int (fun _ _ => rfl))) (blkOk_by (own := [("word", 2)]) (N := ["value", "words", "word", "row"]) (sc := defScope s_law_is_table) (by decide +kernel)) (fun _ _ _ _ _ => (pg_name (i := 2) sc_law_is_table.nd rfl (Or.inl rfl))) (fun _ _ _ _ _ => pts_nil) (fun _ _ _ _ _ => (pe_call G_law_is_word hr_law_is_word rfl T.m_law_is_word T.F_law_is_word.kp T.b_law_is_word .nil pass0 (pa_cons (pv 2) pa_nil)))) (by rfl)) (pss_one (ps_ret pe_bl)) pss_nil)
    (pss_cons (ps_if (pt_cmpR op_in_seq pe_bl (pe_lc (own := [("row", 3)]) (g := (gName 3)) (tt := tYes) rfl sc_law_is_table.nd (pi_tup (pe_ix ix_tup (pv 0) pe_int (fun _ _ => rfl))) (blkOk_by (own := [("row", 3)]) (N := ["value", "words", "word", "row"]) (sc := defScope s_law_is_table) (by decide +kernel)) (fun _ _ _ _ _ => (pg_name (i := 3) sc_law_is_table.nd rfl (Or.inl rfl))) (fun _ _ _ _ _ => pts_nil) (fun _ _ _ _ _ => (pe_call G_law_is_constructor hr_law_is_constructor rfl T.m_law_is_constructor T.F_law_is_constructor.kp T.b_law_is_constructor .nil pass0 (pa_cons (pe_ix (ixTK (K := K)) (pv 0) pe_int (fun _ _ => rfl)) (pa_cons (pe_ix (ixTK (K := K)) (pv 0) pe_int (fun _ _ => rfl)) (pa_cons (pv 3) pa_nil)))))) (by rfl)) (pss_one (ps_ret pe_bl)) pss_nil)
    (pss_cons (ps_set (i := 1) sc_law_is_table.nd rfl (Or.inr rfl) (pe_op op_cat (pe_op op_cat (pe_lc (own := [("row", 3)]) (g := (gName 3)) (tt := tYes) rfl sc_law_is_table.nd (pi_tup (pe_ix ix_tup (pv 0) pe_int (fun _ _ => rfl))) (blkOk_by (own := [("row", 3)]) (N := ["value", "words", "word", "row"]) (sc := defScope s_law_is_table) (by decide +kernel)) (fun _ _ _ _ _ => (pg_name (i := 3) sc_law_is_table.nd rfl (Or.inl rfl))) (fun _ _ _ _ _ => pts_nil) (fun _ _ _ _ _ => (pe_ix (ixTK (K := K)) (pv 3) pe_int (fun _ _ => rfl)))) (pe_callTy call_list_of (by rfl) T.z_list (by decide +kernel) (pa_cons (pe_ix ix_tup (pv 0) pe_int (fun _ _ => rfl)) pa_nil))) (pe_lc (own := [("row", 3)]) (g := (gName 3)) (tt := tYes) rfl sc_law_is_table.nd (pi_tup (pe_ix ix_tup (pv 0) pe_int (fun _ _ => rfl))) (blkOk_by (own := [("row", 3)]) (N := ["value", "words", "word", "row"]) (sc := defScope s_law_is_table) (by decide +kernel)) (fun _ _ _ _ _ => (pg_name (i := 3) sc_law_is_table.nd rfl (Or.inl rfl))) (fun _ _ _ _ _ => pts_nil) (fun _ _ _ _ _ => (pe_ix (ixTK (K := K)) (pv 3) pe_int (fun _ _ => rfl))))))
    (pss_one (ps_ret (pe_cmpR op_eq (pe_callB call_len_seq (by rfl) T.z_len (by decide +kernel) (pa_cons (pe_lc (own := [("word", 2)]) (g := (gName 2)) rfl sc_law_is_table.nd (pi_list (pv 1)) (blkOk_by (own := [("word", 2)]) (N := ["value", "words", "word", "row"]) (sc := defScope s_law_is_table) (by decide +kernel)) (fun _ _ _ _ _ => (pg_name (i := 2) sc_law_is_table.nd rfl (Or.inl rfl))) (fun _ _ _ _ _ => pts_one (pt_cmpR op_gt (pe_bmK (K := K) PySem.F.plainAttrs_list PySem.F.slot_list_count PySem.F.type_list_count (mt_countZ (K := K)) (pv 1) (pa_cons (pv 2) pa_nil)) pe_int (nomark _))) (fun _ _ _ _ _ => (pv 2))) pa_nil)) pe_int (nomark _))))))))), ?_⟩
    have q0 := q H (.refl H)
    refine ⟨_, rfl, v, t, 4, 4, rfl, hI, _, rfl, ?_⟩
    rw [rows_row]
    cases hb : rowB 4 t with
    | false =>
      rw [lawT_not hb] at q0
      exact iteT (iteT q0)
    | true =>
    obtain ⟨ta, tm, tf, tc, rfl⟩ := four_inv hb
    obtain ⟨p, va, vm, vf, vc, rfl, ep, ia, im, iF, ic⟩ := hI.four
    replace q : ∀ H', Same H H' → Q (.bl (isZ "table" ta && (mkB tm && (famB tf && (csB (lconB (mkL tm) (famL tf)) tc && decide ((wordsOf tm tf tc).Nodup)))))) H' := q
    obtain ⟨u, ty, kt⟩ := ia.ty (K := K)
    refine iteF ⟨_, rfl, p, _, _, _, rfl, rfl, ep.sq, atI_nat (j := 0) rfl, _, _, u, _, _, rfl, .ty _, ty, kit_str kt, _, rfl, ?_⟩
    cases ta with
    | oth _ => exact iteT (iteT (q H (.refl H)))
    | tup _ => exact iteT (iteT (q H (.refl H)))
    | str za =>
    refine iteF ⟨_, rfl, p, _, _, _, rfl, rfl, ep.sq, atI_nat (j := 0) rfl, .str za, "table", rfl, ia, _, rfl, ?_⟩
    cases hz : isZ "table" (.str za) with
    | false =>
      have := q H (.refl H)
      rw [hz] at this
      exact iteT this
    | true =>
    rw [hz] at q
    refine iteF ⟨_, rfl, p, _, _, _, rfl, rfl, ep.sq, atI_nat (j := 1) rfl, vm, tm, 30, rfl, im, (hO.mem (by simp) : Ok 31 tm).mono (by decide), fun H1 s1 => ⟨_, rfl, ?_⟩⟩
    cases hm : mkB tm with
    | false =>
      have := q H1 s1
      rw [hm] at this
      exact iteT (iteT this)
    | true =>
    rw [hm] at q
    refine iteF ⟨_, rfl, p, _, _, _, rfl, rfl, (ep.same s1).sq, atI_nat (j := 2) rfl, vf, tf, 1, 4, rfl, iF.same s1, _, rfl, ?_⟩
    cases hf : rowsB 1 4 tf with
    | false =>
      have := q H1 s1
      rw [show famB tf = false by
        cases tf with
        | tup l =>
          simp only [famB, show (decide (1 ≤ l.length) && decide (l.length ≤ 4)) = false from hf, Bool.false_and]
        | str _ => rfl
        | oth _ => rfl] at this
      exact iteT (iteT this)
    | true =>
    refine iteF ⟨_, rfl, p, _, _, _, rfl, rfl, (ep.same s1).sq, atI_nat (j := 3) rfl, vc, tc, 0, 16, rfl, ic.same s1, _, rfl, ?_⟩
    cases hc : rowsB 0 16 tc with
    | false =>
      have := q H1 s1
      rw [show csB (lconB (mkL tm) (famL tf)) tc = false by
        cases tc with
        | tup l =>
          simp only [rowsB, Nat.zero_le, decide_true, Bool.true_and] at hc
          simp only [csB, hc, Bool.false_and]
        | str _ => rfl
        | oth _ => rfl, Bool.false_and, Bool.and_false] at this
      exact iteT this
    | true =>
    obtain ⟨fs, rfl⟩ : ∃ fs, tf = .tup fs := by
      cases tf with
      | tup l => exact ⟨l, rfl⟩
      | str _ => cases hf
      | oth _ => cases hf
    obtain ⟨cs, rfl⟩ : ∃ cs, tc = .tup cs := by
      cases tc with
      | tup l => exact ⟨l, rfl⟩
      | str _ => cases hc
      | oth _ => cases hc
    have hf' : (decide (1 ≤ fs.length) && decide (fs.length ≤ 4)) = true := hf
    have lf4 : fs.length ≤ 4 := by
      simp only [Bool.and_eq_true, decide_eq_true_eq] at hf'
      exact hf'.2
    have lc16 : cs.length ≤ 16 := by
      simp only [rowsB, Bool.and_eq_true, decide_eq_true_eq] at hc
      exact hc.2
    rw [show famB (.tup fs) = fs.all wordB by simp only [famB, hf', Bool.true_and], show csB (lconB (mkL tm) (famL (.tup fs))) (.tup cs) = cs.all (lconB (mkL tm) (famL (.tup fs))) by simp only [csB, decide_eq_true lc16, Bool.true_and]] at q
    obtain ⟨f, fvs, rfl, ef, fL⟩ := iF.tup_inv
    obtain ⟨c, cvs, rfl, ec, cL⟩ := ic.tup_inv
    have oF : Ok 31 (.tup fs) := hO.mem (by simp)
    have oC : Ok 31 (.tup cs) := hO.mem (by simp)
    refine iteF ⟨_, rfl, p, _, _, _, rfl, rfl, (ep.same s1).sq, atI_nat (j := 2) rfl, f, rfl, ⟨_, (ef.same s1).sq⟩, fun D hD => ?_⟩
    refine lc_tup (K := K) (a := f) (xs := fvs) (fun i H2 => Same H1 H2 ∧ H2 D = some (.lst (((fs.take i).map wordB).map V.bl))) ?_ ?_ ?_ ?_
    · exact ⟨same_upd hD _, upd_same⟩
    · exact fun i H2 _ ⟨sm, _⟩ => (ef.same (s1.trans sm)).sq
    · rintro i x H2 hx ⟨sm, eD⟩
      obtain ⟨tt, ett, it⟩ := fL.get hx
      have s2 := s1.trans sm
      refine ⟨rfl, yes_if ⟨_, rfl, x, tt, 30, rfl, it.same s2, oF.mem (List.mem_of_getElem? ett), fun H3 s3 => ⟨_, s3 _ _ eD, small1000 (by simp only [List.length_map, List.length_take]; omega), Kx.Same.own (sm.trans s3) hD _, ?_⟩⟩⟩
      rw [upd_same, take_add ett, List.map_append, List.map_append]; rfl
    rintro H2 ⟨sm2, eD⟩
    rw [fL.len, List.take_length] at eD
    have s2 := s1.trans sm2
    refine ⟨D, _, rfl, .inl (SqL.of eD), rfl, flat_bl _, _, rfl, ?_⟩
    rw [inV_bl, any_not]
    cases hall : fs.all wordB with
    | false =>
      have := q H2 s2
      rw [hall] at this
      exact iteT this
    | true =>
    rw [hall] at q
    have ew := words_map hall
    have eF : famL (.tup fs) = fs.map txt := rfl
    rw [eF] at q
    generalize hF : fs.map txt = F at *
    subst ew
    have ev := fams_vals fL
    subst ev
    obtain ⟨em, G⟩ := mkB_inv hm
    generalize hmk : mkL tm = mk at *
    subst em
    obtain ⟨m, mvs, rfl, em', mL⟩ := im.tup_inv
    have hM : MkAt H m mk := ⟨mvs, em', mL⟩
    refine iteF ⟨_, rfl, p, _, _, _, rfl, rfl, (ep.same s2).sq, atI_nat (j := 3) rfl, c, rfl, ⟨_, (ec.same s2).sq⟩, fun D2 hD2 => ?_⟩
    refine lc_tup (K := K) (a := c) (xs := cvs) (fun i H3 => Same H2 H3 ∧ H3 D2 = some (.lst (((cs.take i).map (lconB mk F)).map V.bl))) ?_ ?_ ?_ ?_
    · exact ⟨same_upd hD2 _, upd_same⟩
    · exact fun i H3 _ ⟨sm, _⟩ => (ec.same (s2.trans sm)).sq
    · rintro i x H3 hx ⟨sm, eD3⟩
      obtain ⟨tt, ett, it⟩ := cL.get hx
      have s3 := s2.trans sm
      refine ⟨rfl, yes_if ⟨_, rfl, p, _, _, _, rfl, rfl, (ep.same s3).sq, atI_nat (j := 1) rfl, _, rfl, p, _, _, _, rfl, rfl, (ep.same s3).sq, atI_nat (j := 2) rfl, _, rfl, m, f, mk, F, x, tt, rfl, hM.same s3, G, ef.same s3, it.same s3, oC.mem (List.mem_of_getElem? ett), fun H4 s4 => ⟨_, s4 _ _ eD3, small1000 (by simp only [List.length_map, List.length_take]; omega), Kx.Same.own (sm.trans s4) hD2 _, ?_⟩⟩⟩
      rw [upd_same, take_add ett, List.map_append, List.map_append]; rfl
    rintro H3 ⟨sm3, eD3⟩
    rw [cL.len, List.take_length] at eD3
    have s3 := s2.trans sm3
    refine ⟨D2, _, rfl, .inl (SqL.of eD3), rfl, flat_bl _, _, rfl, ?_⟩
    rw [inV_bl, any_not]
    cases hcall : cs.all (lconB mk F) with
    | false =>
      have := q H3 s3
      rw [hcall] at this
      exact iteT this
    | true =>
    rw [hcall] at q
    have gm : ∀ t ∈ mk.map mkPV, HdG t := fun t ht => by
      obtain ⟨k, _, rfl⟩ := List.mem_map.mp ht
      exact ⟨_, rfl⟩
    have gc : ∀ t ∈ cs, HdG t := fun t ht => lcon_hd (List.all_eq_true.mp hcall t ht)
    have lm := mL.len
    have lc := cL.len
    have l5 := G.l5
    rw [List.length_map] at lm
    refine iteF ⟨_, rfl, p, _, _, _, rfl, rfl, (ep.same s3).sq, atI_nat (j := 1) rfl, m, rfl, ⟨_, (em'.same s3).sq⟩, fun D3 hD3 => ?_⟩
    refine lc_tup (K := K) (a := m) (xs := mvs) (fun i H4 => Same H3 H4 ∧ H4 D3 = some (.lst (((mk.take i).map (·.1)).map V.str))) ?_ ?_ ?_ ?_
    · exact ⟨same_upd hD3 _, upd_same⟩
    · exact fun i H4 _ ⟨sm, _⟩ => (em'.same (s3.trans sm)).sq
    · rintro i x H4 hx ⟨sm, eD⟩
      obtain ⟨tt, ett, it⟩ := mL.get hx
      rw [List.getElem?_map] at ett
      obtain ⟨k, ek, rfl⟩ := Option.map_eq_some_iff.mp ett
      obtain ⟨b, us, rfl, eb⟩ := (it.same (s3.trans sm)).head (gm _ (List.mem_map.mpr ⟨k, List.mem_of_getElem? ek, rfl⟩))
      refine ⟨rfl, yes_if ⟨_, rfl, b, _, _, _, rfl, rfl, eb.sq, atI_nat (j := 0) rfl, _, eD, small1000 (by simp only [List.length_map, List.length_take]; omega), Kx.Same.own sm hD3 _, ?_⟩⟩
      rw [upd_same, take_add ek, List.map_append, List.map_append]; rfl
    rintro H4 ⟨sm4, eD4⟩
    rw [lm, List.take_length] at eD4
    have s4 := s3.trans sm4
    have lF : F.length ≤ 4 := by rw [← List.length_map (f := PV.str)]; exact lf4
    refine ⟨_, rfl, p, _, _, _, rfl, rfl, (ep.same s4).sq, atI_nat (j := 2) rfl, f, _, rfl, .inr (ef.same s4).sq, fun l hl => ?_⟩
    have s5 := same_upd hl (.lst (F.map V.str))
    refine ⟨D3, l, _, _, rfl, rfl, s5 _ _ eD4, upd_same, by simp only [List.length_map]; exact Nat.le_of_lt (small1000 (by omega)), fun l2 hl2 => ?_⟩
    have s6 := same_upd hl2 (.lst ((mk.map (·.1)).map V.str ++ F.map V.str))
    have s46 := (s4.trans s5).trans s6
    generalize hHb : upd (upd H4 l (.lst (F.map V.str))) l2 (.lst ((mk.map (·.1)).map V.str ++ F.map V.str)) = Hb at *
    have el2 : Hb l2 = some (.lst ((mk.map (·.1)).map V.str ++ F.map V.str)) := by rw [← hHb]; exact upd_same
    refine ⟨_, rfl, p, _, _, _, rfl, rfl, (ep.same s46).sq, atI_nat (j := 3) rfl, c, rfl, ⟨_, (ec.same s46).sq⟩, fun D4 hD4 => ?_⟩
    refine lc_tup (K := K) (a := c) (xs := cvs) (fun i H5 => Same Hb H5 ∧ H5 D4 = some (.lst (((cs.take i).map fst1).map V.str))) ?_ ?_ ?_ ?_
    · exact ⟨same_upd hD4 _, upd_same⟩
    · exact fun i H5 _ ⟨sm, _⟩ => (ec.same (s46.trans sm)).sq
    · rintro i x H5 hx ⟨sm, eD⟩
      obtain ⟨tt, ett, it⟩ := cL.get hx
      obtain ⟨b, us, rfl, eb⟩ := (it.same (s46.trans sm)).head (gc _ (List.mem_of_getElem? ett))
      refine ⟨rfl, yes_if ⟨_, rfl, b, _, _, _, rfl, rfl, eb.sq, atI_nat (j := 0) rfl, _, eD, small1000 (by simp only [List.length_map, List.length_take]; omega), Kx.Same.own sm hD4 _, ?_⟩⟩
      rw [upd_same, take_add ett, List.map_append, List.map_append]; rfl
    rintro H5 ⟨sm5, eD5⟩
    rw [lc, List.take_length] at eD5
    have s5' := s46.trans sm5
    refine ⟨l2, D4, _, _, rfl, rfl, sm5 _ _ el2, eD5, by simp only [List.length_append, List.length_map]; exact Nat.le_of_lt (small1000 (by omega)), fun wl hwl => ?_⟩
    have s7 := same_upd hwl (.lst (((mk.map (·.1)).map V.str ++ F.map V.str) ++ ((cs.map fst1).map V.str)))
    have s7' := s5'.trans s7
    have ewl : upd H5 wl (.lst (((mk.map (·.1)).map V.str ++ F.map V.str) ++ ((cs.map fst1).map V.str))) wl = some (.lst ((mk.map (·.1) ++ F ++ cs.map fst1).map V.str)) := by
      rw [upd_same]; simp only [List.map_append]
    have ew : wordsOf (.tup (mk.map mkPV)) (.tup (F.map PV.str)) (.tup cs) = mk.map (·.1) ++ F ++ cs.map fst1 := by
      have e1 : mkL (.tup (mk.map mkPV)) = mk := by
        simp only [mkL, List.map_map]
        exact (List.map_congr_left fun k _ => rfl).trans (List.map_id mk)
      have e2 : famL (.tup (F.map PV.str)) = F := by
        simp only [famL, List.map_map]
        exact (List.map_congr_left fun k _ => rfl).trans (List.map_id F)
      unfold wordsOf
      rw [e1, e2]
      rfl
    rw [ew] at q
    have lw : (mk.map (·.1) ++ F ++ cs.map fst1).length ≤ 25 := by
      simp only [List.length_append, List.length_map]; omega
    generalize hws : mk.map (·.1) ++ F ++ cs.map fst1 = ws at q ewl lw
    generalize hHc : upd H5 wl (.lst (((mk.map (·.1)).map V.str ++ F.map V.str) ++ ((cs.map fst1).map V.str))) = Hc at *
    refine ⟨_, rfl, wl, rfl, ⟨_, SqL.of ewl⟩, fun D6 hD6 => ?_⟩
    refine lc_list (K := K) (a := wl) (xs := ws.map V.str) (fun i H8 => ∃ acc, Same Hc H8 ∧ H8 D6 = some (.lst acc) ∧ acc.length ≤ i ∧ (acc.length == 0) = (ws.take i).all fun z => decide (ws.count z ≤ 1)) ?_ ?_ ?_ ?_
    · exact ⟨[], same_upd hD6 _, upd_same, Nat.le_refl _, rfl⟩
    · exact fun i H8 _ ⟨_, s8, _⟩ => SqL.of (s8 _ _ ewl)
    · rintro i y H8 hy ⟨acc, s8, eD8, hle, hall8⟩
      rw [List.getElem?_map] at hy
      obtain ⟨z, ez, rfl⟩ := Option.map_eq_some_iff.mp hy
      have hi := (List.getElem?_eq_some_iff.mp ez).1
      have tk : ((ws.take (i + 1)).all fun z => decide (ws.count z ≤ 1)) = (((ws.take i).all fun z => decide (ws.count z ≤ 1)) && decide (ws.count z ≤ 1)) := by
        rw [take_add ez, List.all_append]; simp
      refine ⟨rfl, _, rfl, .inl ⟨rfl, _, SqL.of (s8 _ _ ewl)⟩, _, rfl, wl, ws, z, rfl, rfl, SqL.of (s8 _ _ ewl), _, _, rfl, rfl, _, rfl, ite2 (fun c9 => ?_) (fun c9 => ?_)⟩
      · have hn : ¬ ws.count z ≤ 1 := fun h => by
          have := of_decide_eq_true c9
          omega
        refine ⟨_, rfl, acc, eD8, small1000 (by omega), acc ++ [.str z], Kx.Same.own s8 hD6 _, upd_same, by rw [List.length_append, List.length_singleton]; omega, ?_⟩
        rw [tk, decide_eq_false hn, Bool.and_false, List.length_append]; simp
      · have hy9 : ws.count z ≤ 1 := Nat.not_lt.mp fun h => c9 (decide_eq_true (by omega))
        exact ⟨acc, s8, eD8, by omega, by rw [tk, decide_eq_true hy9, Bool.and_true]; exact hall8⟩
    rintro H8 ⟨acc, s8, eD8, hle, hall8⟩
    rw [List.length_map, List.take_length, once_nd] at hall8
    refine ⟨D6, acc, rfl, .inl (SqL.of eD8), rfl, ?_⟩
    rw [len0, hall8]
    exact q H8 (s7'.trans s8)
end
end Kx
namespace Kx
open PySem PySem.Spec PyProof.Rows L2
section
variable {P : Program} {w : World} {K : PySem.W.Frag} {mg : Str → Option Value} {base : Heap}
set_option pp.maxSteps 900
/-! ### check_table, and what the law makes of it -/
def spCheck (C : Addr) : Sp := fun vs H Q E => ∃ v t, vs = [v] ∧ Is H v t ∧ Ok 32 t ∧ ∀ H', Same H H' → (isT t = true → Q .non H') ∧ (isT t = false → E (.ref C) none H')
theorem ok_check_table (T : Txt K mg) (G_is_table : FnOk P w K mg base CX0 37 T.a_is_table T.d_is_table ["value"] spIsTab) : FnOk P w K mg base (CX P w) 38 T.a_check_table T.d_check_table ["value"] (spCheck T.c_BadTable) := by
  refine T.F_check_table.okX sc_check_table (fun vs H Q E h => ?_) (fun cdv A outer s H vs Q E hr h => ?_)
  · obtain ⟨v, t, rfl, _⟩ := h; rfl
  · obtain ⟨v, t, rfl, hI, hO, q⟩ := h
    have hr_is_table := hr
    refine ⟨_, pss_one (ps_if (pt_not (pt_val (pe_call G_is_table hr_is_table rfl T.m_is_table T.F_is_table.kp T.b_is_table .nil pass0 (pa_cons (pv 0) pa_nil)))) (pss_one (ps_raise rfl (takes_of rfl rfl rfl rfl) (KEo.pmk_own0 PySem.F.excBase_ValueError T.x_BadTable T.g_BadTable T.kp_BadTable (raises_own T.b_BadTable T.t_BadTable) rfl))) pss_nil), ?_⟩
    refine ⟨_, rfl, v, t, rfl, hI, hO, fun H' s' => ⟨_, rfl, ?_⟩⟩
    obtain ⟨q1, q2⟩ := q H' s'
    cases ht : isT t with
    | true => exact iteF (q1 ht)
    | false => exact iteT (q2 ht)
theorem exm_from {K : PySem.W.Frag} {C : Addr} (b : PySem.W.subIn K (.ref C) (.type "BaseException") = some true) (i : PySem.W.isClsIn K C = true) (t : PySem.W.typeIn K (.ref C) = some (.type "type")) (s : PySem.W.subIn K (.ref C) (.ref C) = some true) : PySem.W.exmOne K (.ref C) (.ref C) = some true := by
  have i' : (PySem.W.clsIn K C).isSome = true := i
  simp [PySem.W.exmOne, PySem.W.kitCls, b, i', t, s]
theorem kit_from {K : PySem.W.Frag} {C D : Addr} (i : PySem.W.isClsIn K D = true) (t : PySem.W.typeIn K (.ref D) = some (.type "type")) (s : PySem.W.subIn K (.ref C) (.ref D) = some true) : PySem.W.kitOne K (.ref C) (.ref D) = some true := by
  have i' : (PySem.W.clsIn K D).isSome = true := i
  simp [PySem.W.kitOne, PySem.W.kitCls, i', t, s]
theorem pss_when {X : Cx} {p : Prop} {b : List Stmt} {t : TS} (h : p → PSs X b t) : PSs X b (fun D σ H => p ∧ t D σ H) :=
  ⟨fun pins s σ H D I hh => (h hh.1).run pins s σ H D I hh.2⟩
end
end Kx
namespace Kx
open PySem PySem.Spec PyProof.Rows L2
section
variable {P : Program} {w : World} {K : PySem.W.Frag} {mg : Str → Option Value} {base : Heap}
theorem pss_suite {X : Cx} {a C : Addr} {oe : Obj} {cls : Value} {d : Option Addr} {pn : List (Addr × Obj)} {b : List Stmt} {t : TS} (hz : Zc cls d oe) (mk : Zc (.ref C) none oe → PSs (X.suite a ((a, oe) :: pn)) b t) :
    PSs (X.suite a ((a, oe) :: pn)) b (fun D σ H => (cls = .ref C ∧ d = none) ∧ t D σ H) :=
  pss_when fun hp => mk (by obtain ⟨rfl, rfl⟩ := hp; exact hz)
def spLTold : Sp := fun vs H Q _ => ∃ v t, vs = [v] ∧ Is H v t ∧ Ok 32 t ∧ ∀ H', Same H H' → Q (.bl (isT t)) H'
theorem ok_law_told (T : Txt K mg) (G_check_table : FnOk P w K mg base (CX P w) 38 T.a_check_table T.d_check_table ["value"] (spCheck T.c_BadTable)) : FnOk P w K mg base CX0 39 T.a_law_told T.d_law_told ["value"] spLTold := by
  refine T.F_law_told.ok sc_law_told (fun vs H Q E h => ?_) (fun cdv A outer s H vs Q E hr h => ?_)
  · obtain ⟨v, t, rfl, _⟩ := h; rfl
  · obtain ⟨v, t, rfl, hI, hO, q⟩ := h
    refine ⟨_, pss_one (ps_try_as (i := 1) (c := .ref T.c_BadTable) rfl rfl sc_law_told.nd rfl rfl ⟨rfl, by decide, .inl T.g_BadTable⟩ takes0
      (fun W pn xe tk _ => pss_one (ps_ret (pe_cmpR op_isN (pe_callS G_check_table hr rfl T.m_check_table T.F_check_table.kp T.b_check_table (fun σ => passAt tk σ) (pa_cons (pv 0) pa_nil)) pe_non (nomark _))))
      (fun a oe cls d pn hz hf => pss_suite (C := T.c_BadTable) hz fun hz' => pss_one (ps_ret (pe_not (pe_callB (call_isE T.ec_BadTable hz' hf) (by rfl) T.z_isinstance (by decide +kernel) (pa_cons (pv 1) (pa_cons (pe_glob (by rfl) T.g_KindsError (show RelV (V.ref T.c_KindsError) (.ref T.c_KindsError) from rfl)) pa_nil))))))), ?_⟩
    refine ⟨_, rfl, v, t, rfl, hI, hO, fun H' s' => ⟨fun ht => ?_, fun ht => ?_⟩⟩
    · have := q H' s'
      rw [ht] at this
      refine ⟨rfl, ?_⟩
      rw [show decide (V.non = V.non) = true from decide_eq_true rfl]
      exact this
    · have := q H' s'
      rw [ht] at this
      refine ⟨true, exm_from T.b_BadTable T.i_BadTable T.t_BadTable T.su_BadTable_BadTable, fun _ a ha => ⟨⟨rfl, rfl⟩, ?_⟩, fun z => Bool.noConfusion z⟩
      refine ⟨_, rfl, .ref T.c_KindsError, .ref T.c_KindsError, true, rfl, fun u h => h, kit_from T.i_KindsError T.t_KindsError T.su_BadTable_KindsError, ?_⟩
      exact ⟨true, rfl, this⟩
def spSame : Sp := fun vs H Q _ => ∃ a b : Bool, vs = [.bl a, .bl b] ∧ Q (.bl (a == b)) H
theorem ok_law_same (T : Txt K mg)  : FnOk P w K mg base CX0 1 T.a_law_same T.d_law_same ["flag", "due"] spSame := by
  refine T.F_law_same.ok sc_law_same (fun vs H Q E h => ?_) (fun cdv A outer s H vs Q E hr h => ?_)
  · obtain ⟨a, b, rfl, _⟩ := h; rfl
  · obtain ⟨a, b, rfl, q⟩ := h
    refine ⟨_, (pss_one (ps_ret (pe_and (pe_callB call_isi (by rfl) T.z_isinstance (by decide +kernel) (pa_cons (pv 0) (pa_cons (pe_bltn rfl T.z_bool (by decide +kernel) (show RelV (V.ty "bool") (Value.type "bool") from rfl)) pa_nil))) (pe_one (pe_cmpR op_eq (pv 0) (pv 1) (nomark _)))))), ?_⟩
    refine ⟨_, rfl, _, _, .type "bool", .type "bool", true, rfl, .ty _, .base (.bl a), kit_ty (show kitB "bool" "bool" = some true by decide +kernel), _, rfl, iteT ⟨_, rfl, _, rfl, rfl, ?_⟩⟩
    rw [show decide (V.bl a = V.bl b) = (a == b) by cases a <;> cases b <;> rfl]
    exact q
end
end Kx
set_option maxHeartbeats 2000000
/-! z * n of a text; what expressions without a call make. -/
namespace Kx
open PySem PySem.Spec PyProof.Rows L2
def repS (z : Str) (n : Nat) : Str := ⟨List.foldl (fun x y => x ++ y) #[] (List.replicate n z.cps)⟩
theorem fold_size (a : Array Nat) : ∀ (n : Nat) (acc : Array Nat), (List.foldl (fun x y => x ++ y) acc (List.replicate n a)).size = acc.size + n * a.size
  | 0, acc => by simp
  | n + 1, acc => by
    rw [List.replicate_succ, List.foldl_cons, fold_size a n, Array.size_append, Nat.succ_mul]
    omega
theorem repS_len (z : Str) (n : Nat) : (repS z n).length = n * z.length := by
  have := fold_size z.cps n #[]
  simpa [repS, Str.length] using this
def rMulS : R2 := fun x y H Q => ∃ (z : Str) (n : Nat), x = .str z ∧ y = .int n ∧ 2 ≤ n ∧ n ≤ 100 ∧ z.length = 1 ∧ Q (.str (repS z n)) H
theorem op_mulS {X : Cx} : OpR X (binaryOp .Mult) rMulS := by
  intro pins s σ H x y v u Q I rx ry h
  obtain ⟨z, n, rfl, rfl, h2, h100, hz, q⟩ := h
  obtain ⟨t, rfl⟩ := (show ∃ t, v = Value.str z t from rx)
  obtain ⟨t2, rfl⟩ := (show ∃ t, u = Value.int n t from ry)
  refine wpAny_binaryOp_repeat (T := "str") (U := "int") (by decide) (fun s' => typeIs_str s' z t) (fun s' => typeIs_int s' _ t2) noFill_str_mul F.fills_int_mul F.slot_int_rmul repeat_str F.slot_int_index.lookup
    (call_gives F.slot_int_rmul (typeIs_int s _ t2) F.entry_int_rmul (F.args_int_rmul_2 _ _) (AutoIntG1.int___rmul___int_str_0 _ t2 z t) ⟨rfl, ?_⟩)
  refine call_gives F.slot_str_mul (typeIs_str s z t) F.entry_str_mul (F.args_str_mul_2 _ _) (gives_str_mul z n t t2 ?_ ?_ ?_) ?_
  · have h1 : decide ((n : Int) < -2 ^ 63) = false := decide_eq_false (by omega)
    have h3 : decide ((n : Int) ≥ 2 ^ 63) = false := decide_eq_false (by omega)
    rw [h1, h3]; rfl
  · intro _ _
    rw [hz]
    have : (1 : Int) ≤ (2 ^ 63 - 1) / (n : Int) := by
      apply (Int.le_ediv_iff_mul_le (by omega)).mpr
      omega
    simpa using this
  · intro _ _
    rw [hz]
    show decide (1 * ((n : Int)).toNat > sizeLine) = false
    exact decide_eq_false (by rw [sizeLine_eq]; omega)
  · have c1 : ¬ (n : Int) < 1 := by omega
    have c2 : ¬ ((((n : Int) == 1) || (z.length == 0)) = true) := by
      rw [hz]
      simp
      omega
    rw [if_neg c1, if_neg c2, Int.toNat_natCast]
    refine ⟨?_, .str (repS z n), H, Inv.tok I _, ⟨_, rfl⟩, q⟩
    show (repS z n).length ≤ sizeLine
    rw [repS_len z n, hz, sizeLine_eq]; omega
/-! ### expressions that make data and change nothing -/
/-- a whole number without anything laid -/
def MkI (σ : L2.St) (H0 : Hp) (te : TE) (i : Int) : Prop := ∀ (H : Hp) (Q : VK), Same H0 H → Q (.int i) H → te σ H Q
def MkP (σ : L2.St) (H0 : Hp) (to : TO) (lo : Option Int) : Prop := ∀ (H : Hp) (Q : Option Int → Hp → Prop), Same H0 H → Q lo H → to σ H Q
theorem mki_var {σ : L2.St} {H0 : Hp} {i : Nat} {k : Int} (e : σ[i]? = some (some (.int k))) : MkI σ H0 (tVar i) k := fun H Q _ q => ⟨_, e, q⟩
theorem mki_c {σ : L2.St} {H0 : Hp} {k : Int} : MkI σ H0 (tC (.int k)) k := fun H Q _ q => q
theorem mki_add {σ : L2.St} {H0 : Hp} {ta tb : TE} {a b : Int} (ha : MkI σ H0 ta a) (hb : MkI σ H0 tb b) : MkI σ H0 (tOp (rI0 fun i j => V.int (i + j)) ta tb) (a + b) := fun H Q s q => ha H _ s (hb H _ s ⟨_, _, rfl, rfl, q⟩)
theorem mki_neg {σ : L2.St} {H0 : Hp} {ta : TE} {a : Int} (ha : MkI σ H0 ta a) : MkI σ H0 (tUn (rU fun i => V.int (-i)) ta) (-a) := fun H Q s q => ha H _ s ⟨_, rfl, q⟩
theorem mkp_no {σ : L2.St} {H0 : Hp} : MkP σ H0 tNoPart none := fun H Q _ q => q
theorem mkp_some {σ : L2.St} {H0 : Hp} {te : TE} {i : Int} (h : MkI σ H0 te i) : MkP σ H0 (tPart te) (some i) := fun H Q s q => h H _ s ⟨_, rfl, q⟩
def cutP (ts : List PV) (lo hi : Option Int) : List PV := (ts.drop (HT.sIx ts.length 0 lo)).take (HT.sIx ts.length ts.length hi - HT.sIx ts.length 0 lo)
theorem IsL.cut {H : Hp} {vs : List V} {ts : List PV} (h : IsL H vs ts) (lo hi : Option Int) : IsL H (cutV vs lo hi) (cutP ts lo hi) := by
  unfold cutV cutP
  rw [h.len]
  exact (h.drop _).take _
theorem cutP_mem {ts : List PV} {lo hi : Option Int} {t : PV} (h : t ∈ cutP ts lo hi) : t ∈ ts := List.mem_of_mem_drop (List.mem_of_mem_take h)
theorem cutP_len (ts : List PV) (lo hi : Option Int) : (cutP ts lo hi).length ≤ HT.sIx ts.length ts.length hi - HT.sIx ts.length 0 lo := by
  unfold cutP
  exact List.length_take_le ..
theorem mk_slice {σ : L2.St} {H0 : Hp} {te : TE} {tl th : TO} {ts : List PV} {lo hi : Option Int} (a : MkE σ H0 te (.tup ts)) (b : MkP σ H0 tl lo) (c : MkP σ H0 th hi) : MkE σ H0 (tSl rSlG te tl th) (.tup (cutP ts lo hi)) := fun H Q s q =>
  a H _ s fun v H1 s1 i1 => by
    obtain ⟨p, vs, rfl, ep, hL⟩ := i1.tup_inv
    refine b H1 _ (s.trans s1) (c H1 _ (s.trans s1) ⟨p, vs, rfl, ep, fun p2 H2 s2 e2 => q _ H2 (s1.trans s2) (.tup e2 ((hL.cut lo hi).same s2))⟩)
theorem mk_cat {σ : L2.St} {H0 : Hp} {ta tb : TE} {as bs : List PV} (a : MkE σ H0 ta (.tup as)) (b : MkE σ H0 tb (.tup bs)) (l : as.length + bs.length ≤ 1000) : MkE σ H0 (tOp rCatG ta tb) (.tup (as ++ bs)) := fun H Q s q =>
  a H _ s fun v H1 s1 i1 => b H1 _ (s.trans s1) fun u H2 s2 i2 => by
    obtain ⟨p, vs, rfl, ep, hL⟩ := i1.tup_inv
    obtain ⟨p2, us, rfl, ep2, hL2⟩ := i2.tup_inv
    refine ⟨p, p2, vs, us, rfl, rfl, ep.same s2, ep2, ?_, fun p3 H3 s3 e3 => q _ H3 ((s1.trans s2).trans s3) (.tup e3 (((hL.same s2).append hL2).same s3))⟩
    rw [hL.len, hL2.len]
    exact Nat.le_of_lt (small1000 l)
theorem mk_ix {σ : L2.St} {H0 : Hp} {K : PySem.W.Frag} {te ti : TE} {ts : List PV} {i : Nat} {t : PV} (a : MkE σ H0 te (.tup ts)) (b : MkI σ H0 ti i) (e : ts[i]? = some t) : MkE σ H0 (tOp (rIxT K) te ti) t := fun H Q s q =>
  a H _ s fun v H1 s1 i1 => b H1 _ (s.trans s1) (by
    obtain ⟨p, vs, rfl, ep, hL⟩ := i1.tup_inv
    have hl : i < vs.length := by rw [hL.len]; exact (List.getElem?_eq_some_iff.mp e).1
    obtain ⟨y, ey, iy⟩ := hL.get (List.getElem?_eq_getElem hl)
    rw [e] at ey
    cases ey
    exact ⟨p, vs, _, _, rfl, rfl, ep.sq, atI_nat (List.getElem?_eq_getElem hl), q _ H1 s1 iy⟩)
theorem mk_last {σ : L2.St} {H0 : Hp} {K : PySem.W.Frag} {te ti : TE} {ts : List PV} {t : PV} (a : MkE σ H0 te (.tup (ts ++ [t]))) (b : MkI σ H0 ti (-1)) : MkE σ H0 (tOp (rIxT K) te ti) t := fun H Q s q =>
  a H _ s fun v H1 s1 i1 => b H1 _ (s.trans s1) (by
    obtain ⟨p, vs, rfl, ep, hL⟩ := i1.tup_inv
    have hlen := hL.len
    rw [List.length_append, List.length_singleton] at hlen
    have hl : vs.length - 1 < vs.length := by omega
    obtain ⟨y, ey, iy⟩ := hL.get (List.getElem?_eq_getElem hl)
    rw [show vs.length - 1 = ts.length by omega] at ey
    simp only [List.getElem?_append_right (Nat.le_refl ts.length), Nat.sub_self, List.getElem?_cons_zero] at ey
    cases ey
    refine ⟨p, vs, _, _, rfl, rfl, ep.sq, ?_, q _ H1 s1 iy⟩
    have hne : vs ≠ [] := fun e => by rw [e] at hl; simp at hl
    have e2 := List.dropLast_concat_getLast hne
    rw [List.getLast_eq_getElem] at e2
    have e3 := atI_last vs.dropLast (vs[vs.length - 1])
    rw [e2] at e3
    exact e3)
end Kx
namespace Kx
open PySem PySem.Spec PyProof.Rows L2
section
variable {P : Program} {w : World} {K : PySem.W.Frag} {mg : Str → Option Value} {base : Heap}
set_option pp.maxSteps 900
/-! ### a part that is spoilt -/
theorem go_kindN {σ : L2.St} {H : Hp} {te : TE} {rest : TS} {D : Ends} {i : Nat} {k j : Int} (e : σ[i]? = some (some (.int k))) (y : k = j → te σ H D.rt) (n : k ≠ j → rest D σ H) : tSeq (tIfS (tTest (tOp rEq (tVar i) (tC (.int j)))) (tRet te) tNext) rest D σ H := by
  refine ⟨_, e, rfl, _, rfl, ?_⟩
  rw [dec_int]
  by_cases h : k = j
  · have : (k == j) = true := by simpa using h
    rw [this]; exact iteT (y h)
  · have : (k == j) = false := by simpa using h
    rw [this]; exact iteF (n h)
def spSpoilt (n : Nat) : Sp := fun vs H Q _ => ∃ (d c : Addr) (v o : V) (t ot : PV) (w k : Nat), vs = [.ref d, v, o] ∧ Dr H d c ∧ Is H v t ∧ OkW w n t ∧ Is H o ot ∧ OkW w k ot ∧ w ≤ 39 ∧
  ∀ v' t' H', Is H' v' t' → OkW (w + 1) (n + k) t' → Ex d c H H' → Dr H' d c → Q v' H'
theorem ok_law_spoilt {n : Nat} (T : Txt K mg) (G_law_draw : FnOk P w K mg base CX0 1 T.a_law_draw T.d_law_draw ["state", "many"] spDraw) (G_law_spoilt : FnOk P w K mg base CX0 (n+1) T.a_law_spoilt T.d_law_spoilt ["state", "value", "odd"] (spSpoilt n)) : FnOk P w K mg base CX0 (n+2) T.a_law_spoilt T.d_law_spoilt ["state", "value", "odd"] (spSpoilt (n+1)) := by
  refine T.F_law_spoilt.ok sc_law_spoilt (fun vs H Q E h => ?_) (fun cdv A outer s H vs Q E hr h => ?_)
  · obtain ⟨d, c, v, o, t, ot, w, k, rfl, _⟩ := h; rfl
  · obtain ⟨d, c, v, o, t, ot, w, k, rfl, hD, hI, hO, hJ, hP, h39, q⟩ := h
    have hr_law_spoilt := hr
    have hr_law_draw : Room 1 _ := hr.mono (by omega)
    refine ⟨_, (pss_cons (ps_if (PW.pt (pw_or (pt_not (pt_val (pe_callB call_isi (by rfl) T.z_isinstance (by decide +kernel) (pa_cons (pv 1) (pa_cons (pe_bltn rfl T.z_tuple (by decide +kernel) (show RelV (V.ty "tuple") (Value.type "tuple") from rfl)) pa_nil))))) (pw_or (pt_cmpR op_eq (pe_callB call_len_seq (by rfl) T.z_len (by decide +kernel) (pa_cons (pv 1) pa_nil)) pe_int (nomark _)) (pw_or1 (pt_cmpR op_eq (pe_call G_law_draw hr_law_draw rfl T.m_law_draw T.F_law_draw.kp T.b_law_draw .nil pass0 (pa_cons (pv 0) (pa_cons pe_int pa_nil))) pe_int (nomark _)))))) (pss_one (ps_ret (pv 2))) pss_nil)
    (pss_cons (ps_set (i := 3) sc_law_spoilt.nd rfl (Or.inl rfl) (pe_call G_law_draw hr_law_draw rfl T.m_law_draw T.F_law_draw.kp T.b_law_draw .nil pass0 (pa_cons (pv 0) (pa_cons (pe_callB call_len_seq (by rfl) T.z_len (by decide +kernel) (pa_cons (pv 1) pa_nil)) pa_nil))))
    (pss_cons (ps_set (i := 4) sc_law_spoilt.nd rfl (Or.inl rfl) (pe_call G_law_draw hr_law_draw rfl T.m_law_draw T.F_law_draw.kp T.b_law_draw .nil pass0 (pa_cons (pv 0) (pa_cons pe_int pa_nil))))
    (pss_cons (ps_if (pt_cmpR op_eq (pv 4) pe_int (nomark _)) (pss_one (ps_ret (pe_op op_catG (pe_slice sl_tupG (pv 1) po_none (po_some (pv 3))) (pe_slice sl_tupG (pv 1) (po_some (pe_op op_add (pv 3) pe_int)) po_none)))) pss_nil)
    (pss_cons (ps_if (pt_cmpR op_eq (pv 4) pe_int (nomark _)) (pss_one (ps_ret (pe_op op_catG (pe_op op_catG (pe_slice sl_tupG (pv 1) po_none (po_some (pv 3))) (pe_tupG (pa_cons (pv 2) pa_nil))) (pe_slice sl_tupG (pv 1) (po_some (pv 3)) po_none)))) pss_nil)
    (pss_cons (ps_if (pt_cmpR op_eq (pv 4) pe_int (nomark _)) (pss_one (ps_ret (pe_op op_catG (pe_op op_catG (pe_slice sl_tupG (pv 1) po_none (po_some (pv 3))) (pe_slice sl_tupG (pv 1) (po_some (pv 3)) (po_some (pe_op op_add (pv 3) pe_int)))) (pe_slice sl_tupG (pv 1) (po_some (pv 3)) po_none)))) pss_nil)
    (pss_cons (ps_if (pt_cmpR op_eq (pv 4) pe_int (nomark _)) (pss_one (ps_ret (pe_op op_catG (pe_op op_catG (pe_op op_catG (pe_slice sl_tupG (pv 1) po_none (po_some (pv 3))) (pe_slice sl_tupG (pv 1) (po_some (pe_op op_add (pv 3) pe_int)) (po_some (pe_op op_add (pv 3) pe_int)))) (pe_slice sl_tupG (pv 1) (po_some (pv 3)) (po_some (pe_op op_add (pv 3) pe_int)))) (pe_slice sl_tupG (pv 1) (po_some (pe_op op_add (pv 3) pe_int)) po_none)))) pss_nil)
    (pss_cons (ps_if (pt_cmpR op_eq (pv 4) pe_int (nomark _)) (pss_one (ps_ret (pe_callTy call_list_of (by rfl) T.z_list (by decide +kernel) (pa_cons (pv 1) pa_nil)))) pss_nil)
    (pss_one (ps_ret (pe_op op_catG (pe_op op_catG (pe_slice sl_tupG (pv 1) po_none (po_some (pv 3))) (pe_tupG (pa_cons (pe_call G_law_spoilt hr_law_spoilt rfl T.m_law_spoilt T.F_law_spoilt.kp T.b_law_spoilt .nil pass0 (pa_cons (pv 0) (pa_cons (pe_ix ix_tup (pv 1) (pv 3) (fun _ _ => rfl)) (pa_cons (pv 2) pa_nil)))) pa_nil))) (pe_slice sl_tupG (pv 1) (po_some (pe_op op_add (pv 3) pe_int)) po_none)))))))))))), ?_⟩
    obtain ⟨u, ty, kt⟩ := hI.ty (K := K)
    have odd : ∀ {H'}, Ex d c H H' → Dr H' d c → Q o H' := fun {H'} x hD' => q o ot H' (hJ.ex x hD) ((hP.wide (Nat.le_succ w)).mono (by omega)) x hD'
    refine ⟨_, rfl, _, _, u, _, _, rfl, .ty _, ty, kit_tup kt, _, rfl, ?_⟩
    cases t with
    | oth _ => exact iteT (iteT ⟨_, rfl, odd (.refl _ _ _) hD⟩)
    | str _ => exact iteT (iteT ⟨_, rfl, odd (.refl _ _ _) hD⟩)
    | tup ts =>
    obtain ⟨a, us, rfl, ea, hL⟩ := hI.tup_inv
    have hlen := hL.len
    refine iteF ⟨_, rfl, a, us, rfl, .inr ea.sq, rfl, _, rfl, ?_⟩
    rw [len0]
    cases hz : (us.length == 0) with
    | true => exact iteT (iteT ⟨_, rfl, odd (.refl _ _ _) hD⟩)
    | false =>
    have l1 : 1 ≤ ts.length := by
      have := beq_eq_false_iff_ne.mp hz
      omega
    have lw : ts.length ≤ w := hO.1
    refine iteF ⟨_, rfl, d, c, 9, rfl, hD, by omega, by omega, fun r1 H1 _ _ x1 hD1 => ⟨rfl, _, rfl, ?_⟩⟩
    cases hr1 : decide (V.int r1 = V.int 0) with
    | true => exact iteT ⟨_, rfl, odd x1 hD1⟩
    | false =>
    refine iteF ?_
    have ea1 := ea.ex x1 hD
    refine ⟨_, rfl, _, rfl, a, us, rfl, .inr ea1.sq, d, c, (us.length : Int), rfl, hD1, by omega, by omega, fun at_ H2 a0 a1 x2 hD2 => ?_⟩
    obtain ⟨j, rfl⟩ : ∃ j : Nat, at_ = j := ⟨at_.toNat, by omega⟩
    have hj : j < ts.length := by omega
    refine ⟨_, rfl, d, c, 16, rfl, hD2, by omega, by omega, fun kind H3 _ _ x3 hD3 => ?_⟩
    have x13 := (x1.trans x2).trans x3
    have hI3 := hI.ex x13 hD
    have hJ3 := hJ.ex x13 hD
    have oldOk : ∀ t ∈ ts, OkW (w + 1) (n + k) t := fun t ht => ((hO.mem ht).wide (Nat.le_succ w)).mono (by omega)
    have oddOk : OkW (w + 1) (n + k) ot := (hP.wide (Nat.le_succ w)).mono (by omega)
    have fin : ∀ {σ : L2.St} {te : TE} {ts' : List PV}, MkE σ H3 te (.tup ts') → ts'.length ≤ ts.length + 1 → (∀ t ∈ ts', t ∈ ts ∨ t = ot) → te σ H3 Q := fun {σ te ts'} m l e =>
      mk_go m fun v' H' s' i' => q v' _ H' i' (by
        rw [show n + 1 + k = (n + k) + 1 by omega]
        refine ⟨by omega, fun t ht => ?_⟩
        rcases e t ht with h | h
        · exact oldOk t h
        · rw [h]; exact oddOk) (x13.trans (.of s')) (hD3.same s')
    have len : ∀ (lo hi : Nat), (cutP ts (some (lo : Int)) (some (hi : Int))).length ≤ min hi ts.length - min lo ts.length := fun lo hi => by
      have h := cutP_len ts (some (lo : Int)) (some (hi : Int))
      simp only [HT.sIx_nat] at h
      exact h
    have c1 : (cutP ts none (some (j : Int))).length ≤ j := by
      have h := cutP_len ts none (some (j : Int))
      simp only [HT.sIx_nat, HT.sIx_none] at h
      omega
    have from_ : ∀ lo : Nat, (cutP ts (some (lo : Int)) none).length ≤ ts.length - lo := fun lo => by
      have h := cutP_len ts (some (lo : Int)) none
      simp only [HT.sIx_nat, HT.sIx_none] at h
      omega
    have c2 : (cutP ts (some ((j : Int) + 1)) none).length ≤ ts.length - (j + 1) := from_ (j + 1)
    have c3 := from_ j
    have c6 : (cutP ts (some ((j : Int) + 2)) none).length ≤ ts.length - (j + 2) := from_ (j + 2)
    have c4 : (cutP ts (some (j : Int)) (some ((j : Int) + 1))).length ≤ 1 := by
      have := len j (j + 1)
      have h2 : (cutP ts (some (j : Int)) (some ((j : Int) + 1))).length ≤ min (j + 1) ts.length - min j ts.length := this
      omega
    have c5 : (cutP ts (some ((j : Int) + 1)) (some ((j : Int) + 2))).length ≤ min (j + 2) ts.length - min (j + 1) ts.length := len (j + 1) (j + 2)
    refine go_kindN rfl (fun _ => fin (mk_cat (mk_slice (mk_var rfl hI3) mkp_no (mkp_some (mki_var rfl))) (mk_slice (mk_var rfl hI3) (mkp_some (mki_add (mki_var rfl) mki_c)) mkp_no) ?_) ?_ ?_) fun k0 => ?_
    · omega
    · rw [List.length_append]; omega
    · intro t ht
      simp only [List.mem_append] at ht
      rcases ht with ht | ht <;> exact .inl (cutP_mem ht)
    refine go_kindN rfl (fun _ => fin (mk_cat (mk_cat (mk_slice (mk_var rfl hI3) mkp_no (mkp_some (mki_var rfl))) (mk_tup (mk_cons (mk_var rfl hJ3) mk_nil) (by simp)) ?_) (mk_slice (mk_var rfl hI3) (mkp_some (mki_var rfl)) mkp_no) ?_) ?_ ?_) fun k1 => ?_
    · rw [List.length_singleton]; omega
    · rw [List.length_append, List.length_singleton]; omega
    · rw [List.length_append, List.length_append, List.length_singleton]; omega
    · intro t ht
      simp only [List.mem_append, List.mem_singleton] at ht
      rcases ht with (ht | ht) | ht
      · exact .inl (cutP_mem ht)
      · exact .inr ht
      · exact .inl (cutP_mem ht)
    refine go_kindN rfl (fun _ => fin (mk_cat (mk_cat (mk_slice (mk_var rfl hI3) mkp_no (mkp_some (mki_var rfl))) (mk_slice (mk_var rfl hI3) (mkp_some (mki_var rfl)) (mkp_some (mki_add (mki_var rfl) mki_c))) ?_) (mk_slice (mk_var rfl hI3) (mkp_some (mki_var rfl)) mkp_no) ?_) ?_ ?_) fun k2 => ?_
    · omega
    · rw [List.length_append]; omega
    · rw [List.length_append, List.length_append]; omega
    · intro t ht
      simp only [List.mem_append] at ht
      rcases ht with (ht | ht) | ht <;> exact .inl (cutP_mem ht)
    refine go_kindN rfl (fun _ => fin (mk_cat (mk_cat (mk_cat (mk_slice (mk_var rfl hI3) mkp_no (mkp_some (mki_var rfl))) (mk_slice (mk_var rfl hI3) (mkp_some (mki_add (mki_var rfl) mki_c)) (mkp_some (mki_add (mki_var rfl) mki_c))) ?_) (mk_slice (mk_var rfl hI3) (mkp_some (mki_var rfl)) (mkp_some (mki_add (mki_var rfl) mki_c))) ?_) (mk_slice (mk_var rfl hI3) (mkp_some (mki_add (mki_var rfl) mki_c)) mkp_no) ?_) ?_ ?_) fun k3 => ?_
    · omega
    · rw [List.length_append]; omega
    · rw [List.length_append, List.length_append]; omega
    · rw [List.length_append, List.length_append, List.length_append]; omega
    · intro t ht
      simp only [List.mem_append] at ht
      rcases ht with ((ht | ht) | ht) | ht <;> exact .inl (cutP_mem ht)
    obtain ⟨a3, us3, e3, ea3, hL3⟩ := hI3.tup_inv
    cases e3
    refine go_kindN rfl (fun _ => ?_) fun k4 => ?_
    · exact ⟨_, rfl, a, us3, rfl, .inr ea3.sq, fun l hl => q _ (.oth .lst) _ (.lst ⟨_, upd_same⟩) (by rw [show n + 1 + k = (n + k) + 1 by omega]; trivial) (x13.trans (.of (same_upd hl _))) (hD3.same (same_upd hl _))⟩
    refine mk_slice (lo := none) (hi := some (j : Int)) (mk_var rfl hI3) mkp_no (mkp_some (mki_var rfl)) H3 _ (.refl _) fun v4 H4 s4 i4 => ?_
    obtain ⟨p4, vs4, rfl, ep4, hL4⟩ := i4.tup_inv
    have hl3 : j < us3.length := by rw [hL3.len]; exact hj
    obtain ⟨y, ey, iy⟩ := hL3.get (List.getElem?_eq_getElem hl3)
    refine ⟨_, rfl, _, rfl, _, rfl, a, us3, _, _, rfl, rfl, (ea3.same s4).sq, atI_nat (List.getElem?_eq_getElem hl3), _, rfl, d, c, _, o, y, ot, w, k, rfl, hD3.same s4, iy.same s4, hO.mem (List.mem_of_getElem? ey), hJ3.same s4, hP, h39, fun v5 t5 H5 i5 o5 x5 hD5 => ?_⟩
    have x35 : Ex d c H3 H5 := (Ex.of s4).trans x5
    refine ⟨(by show 1 ≤ sizeLine; decide), fun p6 H6 hp6 s6 e6 => ?_⟩
    have ep4' := (ep4.ex x5 (hD3.same s4)).same s6
    have hL4' := (hL4.ex x5 (hD3.same s4)).same s6
    have l4 := hL4.len
    refine ⟨p4, p6, vs4, [v5], rfl, rfl, ep4', e6, by rw [l4, List.length_singleton]; exact Nat.le_of_lt (small1000 (by omega)), fun p7 H7 s7 e7 => ?_⟩
    have i7 : Is H7 (.ref p7) (.tup (cutP ts none (some (j : Int)) ++ [t5])) := .tup e7 ((hL4'.append (.cons (i5.same s6) .nil)).same s7)
    have hI7 : Is H7 (.ref a) (.tup ts) := ((hI3.ex x35 hD3).same s6).same s7
    refine mk_slice (lo := some ((j : Int) + 1)) (hi := none) (mk_var rfl hI7) (mkp_some (mki_add (mki_var rfl) mki_c)) mkp_no H7 _ (.refl _) fun v8 H8 s8 i8 => ?_
    obtain ⟨p8, vs8, rfl, ep8, hL8⟩ := i8.tup_inv
    have l8 := hL8.len
    refine ⟨p7, p8, _, vs8, rfl, rfl, e7.same s8, ep8, by rw [List.length_append, l4, l8, List.length_singleton]; exact Nat.le_of_lt (small1000 (by omega)), fun p9 H9 s9 e9 => ?_⟩
    obtain ⟨p7', vs7, e0, ep7, hL7⟩ := i7.tup_inv
    cases e0
    cases ep7.det e7
    refine q _ (.tup ((cutP ts none (some (j : Int)) ++ [t5]) ++ cutP ts (some ((j : Int) + 1)) none)) H9 (.tup e9 (((hL7.same s8).append hL8).same s9)) ?_ ((x13.trans x35).trans (.of (((s6.trans s7).trans s8).trans s9))) ((((hD5.same s6).same s7).same s8).same s9)
    rw [show n + 1 + k = (n + k) + 1 by omega]
    refine ⟨by rw [List.length_append, List.length_append, List.length_singleton]; omega, fun t ht => ?_⟩
    simp only [List.mem_append, List.mem_singleton] at ht
    rcases ht with (ht | ht) | ht
    · exact oldOk t (cutP_mem ht)
    · rw [ht]; exact o5
    · exact oldOk t (cutP_mem ht)
end
end Kx
namespace Kx
open PySem PySem.Spec PyProof.Rows L2
section
variable {P : Program} {w : World} {K : PySem.W.Frag} {mg : Str → Option Value} {base : Heap}
set_option pp.maxSteps 900
/-! ### odd values -/
theorem mk_non {σ : L2.St} {H0 : Hp} : MkE σ H0 (tC .non) (.oth .non) := fun H Q s q => q _ H (.refl _) .non
theorem mk_bl {σ : L2.St} {H0 : Hp} (b : Bool) : MkE σ H0 (tC (.bl b)) (.oth (.bl b)) := fun H Q s q => q _ H (.refl _) (.bl b)
theorem mk_neg {σ : L2.St} {H0 : Hp} {i : Int} : MkE σ H0 (tUn (rU fun i => V.int (-i)) (tC (.int i))) (.oth (.int (-i))) := fun H Q s q => ⟨_, rfl, q _ H (.refl _) (.int _)⟩
theorem mk_dnew {σ : L2.St} {H0 : Hp} : MkE σ H0 tDNewK (.oth .dict) := fun H Q s q p hp => q _ _ (same_upd hp _) (.dict upd_same)
theorem mk_lst0 {σ : L2.St} {H0 : Hp} : MkE σ H0 (tLst tNil) (.oth .lst) := fun H Q s q => ⟨(by show 0 ≤ sizeLine; decide), fun p hp => q _ _ (same_upd hp _) (.lst ⟨_, upd_same⟩)⟩
theorem mk_disp1 {σ : L2.St} {H0 : Hp} {z : Str} {i : Int} (ok : sok z = true) : MkE σ H0 (tDisp [(tC (.str z), tC (.int i))]) (.oth .dict) := fun H Q s q p hp => by
  refine ⟨upd_same, [(Sum.inr z, .int i)], rfl, by simp, ?_⟩
  exact q _ _ (Kx.Same.own (same_upd hp _) hp _) (.dict upd_same)
/-- each of them stands for a thing that may be picked -/
def GoodL (H : Hp) (vs : List V) : Prop := ∀ x ∈ vs, ∃ t, Is H x t ∧ OkW 16 8 t
theorem GoodL.same {H H' : Hp} {vs : List V} (s : Same H H') (g : GoodL H vs) : GoodL H' vs := fun x hx => by
  obtain ⟨t, i, o⟩ := g x hx
  exact ⟨t, i.same s, o⟩
theorem GoodL.append {H : Hp} {vs us : List V} (a : GoodL H vs) (b : GoodL H us) : GoodL H (vs ++ us) := fun x hx => by
  rcases List.mem_append.mp hx with h | h
  · exact a x h
  · exact b x h
theorem IsL.mem_of {H : Hp} : ∀ {vs : List V} {ts : List PV}, IsL H vs ts → ∀ x ∈ vs, ∃ t ∈ ts, Is H x t
  | _, _, .nil, x, h => by cases h
  | _, _, .cons a r, x, h => by
    rcases List.mem_cons.mp h with rfl | h
    · exact ⟨_, List.mem_cons_self .., a⟩
    · obtain ⟨t, m, i⟩ := IsL.mem_of r x h
      exact ⟨t, List.mem_cons_of_mem _ m, i⟩
theorem good_of {H : Hp} {vs : List V} {ts : List PV} (h : IsL H vs ts) (o : ∀ t ∈ ts, OkW 16 8 t) : GoodL H vs := fun x hx => by
  obtain ⟨t, m, i⟩ := h.mem_of x hx
  exact ⟨t, i, o t m⟩
theorem go_lst {σ : L2.St} {H : Hp} {ta : TA} {ts : List PV} {g : TG} {rest : TS} {D : Ends} (a : MkA σ H ta ts) (hl : ts.length ≤ 1000) (q : ∀ l vs H', H l = none → Same H H' → H' l = some (.lst vs) → IsL H' vs ts → g (.ref l) σ H' fun σ2 H2 => rest D σ2 H2) : tSeq (tAsg (tLst ta) g) rest D σ H :=
  a H _ (.refl _) fun vs H1 s1 i1 => ⟨Nat.le_of_lt (small1000 (by rw [i1.len]; exact hl)), fun p hp => q p vs _ (s1.free hp) (s1.trans (same_upd hp _)) upd_same (i1.same (same_upd hp _))⟩
def spOdd : Sp := fun vs H Q _ => ∃ (d c : Addr) (tv : V) (mk : List PV) (F : List Str) (cs : List Con), vs = [.ref d, tv] ∧ Dr H d c ∧ Is H tv (tabPV mk F cs) ∧ MkOk mk ∧ TabK F cs ∧
  ∀ v t H', Is H' v t → OkW 16 8 t → Ex d c H H' → Dr H' d c → Q v H'
def odds1 : List PV := [.str "a-b", .str "a b", .str "Zz9", .str "9", .str "n.1", .oth .dict, .oth .dict, .str "(", .str "n", .str "m", .str "z", .str "s", .str "Fa", .str "K0", .str "", .str "2b", .str "a_b"]
theorem odds1_ok : ∀ t ∈ odds1, OkW 16 8 t := by decide +kernel
def odds2 : List PV := [.str "twelveletter", .str "thirteenchars", .tup [.str "z"], .tup [.str "s", .str "n"]]
theorem odds2_ok : ∀ t ∈ odds2, OkW 16 8 t := by decide +kernel
def odds3 : List PV := [.tup [.str "s", .str "k"], .tup [.str "s", .tup [.str "s", .str "n"]], .tup [.str "p", .str "n", .str "n"], .tup [.str "p", .str "n", .str "m"], .tup [.str "q"], .tup [], .oth .lst, .oth .non, .oth (.bl true), .oth (.bl false)]
theorem odds3_ok : ∀ t ∈ odds3, OkW 16 8 t := by decide +kernel
def odds4 : List PV := [.oth (.int (0)), .oth (.int (1)), .oth (.int (2)), .oth (.int (3)), .oth (.int (-1)), .tup [.str "Fa", .str "n"], .tup [.str "Fb", .tup [.str "s", .str "n"]], .tup [.str "x", .oth (.int (0))]]
theorem odds4_ok : ∀ t ∈ odds4, OkW 16 8 t := by decide +kernel
theorem ok_law_odd (T : Txt K mg) (G_law_pick : FnOk P w K mg base CX0 2 T.a_law_pick T.d_law_pick ["state", "row"] (spPick K)) : FnOk P w K mg base CX0 3 T.a_law_odd T.d_law_odd ["state", "table"] spOdd := by
  refine T.F_law_odd.ok sc_law_odd (fun vs H Q E h => ?_) (fun cdv A outer s H vs Q E hr h => ?_)
  · obtain ⟨d, c, tv, mk, F, cs, rfl, _⟩ := h; rfl
  · obtain ⟨d, c, tv, mk, F, cs, rfl, hD, hI, hmk, hT, q⟩ := h
    have hr_law_pick := hr
    refine ⟨_, (pss_cons (ps_set (i := 2) sc_law_odd.nd rfl (Or.inl rfl) (pe_lst (pa_cons pe_str (pa_cons pe_str (pa_cons pe_str (pa_cons pe_str (pa_cons pe_str (pa_cons pe_dnewK (pa_cons (pe_disp (pps_cons pe_str pe_int pps_nil) (by rfl) (by rfl) (fun z => by cases z) (by decide)) (pa_cons pe_str (pa_cons pe_str (pa_cons pe_str (pa_cons pe_str (pa_cons pe_str (pa_cons pe_str (pa_cons pe_str (pa_cons pe_str (pa_cons pe_str (pa_cons pe_str pa_nil)))))))))))))))))))
    (pss_cons (ps_set (i := 2) sc_law_odd.nd rfl (Or.inl rfl) (pe_op op_cat (pv 2) (pe_lst (pa_cons pe_str (pa_cons pe_str (pa_cons (pe_tupG (pa_cons pe_str pa_nil)) (pa_cons (pe_tupG (pa_cons pe_str (pa_cons pe_str pa_nil))) pa_nil)))))))
    (pss_cons (ps_set (i := 2) sc_law_odd.nd rfl (Or.inl rfl) (pe_op op_cat (pv 2) (pe_lst (pa_cons (pe_tupG (pa_cons pe_str (pa_cons pe_str pa_nil))) (pa_cons (pe_tupG (pa_cons pe_str (pa_cons (pe_tupG (pa_cons pe_str (pa_cons pe_str pa_nil))) pa_nil))) (pa_cons (pe_tupG (pa_cons pe_str (pa_cons pe_str (pa_cons pe_str pa_nil)))) (pa_cons (pe_tupG (pa_cons pe_str (pa_cons pe_str (pa_cons pe_str pa_nil)))) (pa_cons (pe_tupG (pa_cons pe_str pa_nil)) (pa_cons (pe_tupG pa_nil) (pa_cons (pe_lst pa_nil) (pa_cons pe_non (pa_cons pe_bl (pa_cons pe_bl pa_nil)))))))))))))
    (Evl.pss_cut (ps_set (i := 2) sc_law_odd.nd rfl (Or.inl rfl) (pe_op op_cat (pv 2) (pe_lst (pa_cons pe_int (pa_cons pe_int (pa_cons pe_int (pa_cons pe_int (pa_cons (pe_un un_neg pe_int) (pa_cons (pe_tupG (pa_cons pe_str (pa_cons pe_str pa_nil))) (pa_cons (pe_tupG (pa_cons pe_str (pa_cons (pe_tupG (pa_cons pe_str (pa_cons pe_str pa_nil))) pa_nil))) (pa_cons (pe_tupG (pa_cons pe_str (pa_cons pe_int pa_nil))) pa_nil)))))))))))
    (pss_cons (ps_set (i := 3) sc_law_odd.nd rfl (Or.inl rfl) (pe_lst (pa_cons (pe_ix ix_tup (pv 1) pe_int (fun _ _ => rfl)) (pa_cons (pe_ix ix_tup (pv 1) pe_int (fun _ _ => rfl)) (pa_cons (pe_ix ix_tup (pv 1) pe_int (fun _ _ => rfl)) (pa_cons (pe_ix ix_tup (pe_ix ix_tup (pv 1) pe_int (fun _ _ => rfl)) pe_int (fun _ _ => rfl)) (pa_cons (pe_ix ix_tup (pe_ix ix_tup (pv 1) pe_int (fun _ _ => rfl)) (pe_un un_neg pe_int) (fun _ _ => rfl)) (pa_cons (pe_ix ix_tup (pe_ix ix_tup (pe_ix ix_tup (pv 1) pe_int (fun _ _ => rfl)) pe_int (fun _ _ => rfl)) pe_int (fun _ _ => rfl)) (pa_cons (pe_ix ix_tup (pe_ix ix_tup (pe_ix ix_tup (pv 1) pe_int (fun _ _ => rfl)) (pe_un un_neg pe_int) (fun _ _ => rfl)) pe_int (fun _ _ => rfl)) (pa_cons (pe_ix ix_tup (pe_ix ix_tup (pe_ix ix_tup (pv 1) pe_int (fun _ _ => rfl)) (pe_un un_neg pe_int) (fun _ _ => rfl)) pe_int (fun _ _ => rfl)) pa_nil))))))))))
    (pss_one (ps_ret (pe_call G_law_pick hr_law_pick rfl T.m_law_pick T.F_law_pick.kp T.b_law_pick .nil pass0 (pa_cons (pv 0) (pa_cons (pe_op op_cat (pv 2) (pv 3)) pa_nil)))))))))), ?_⟩
    refine go_lst (ts := odds1) ?_ (by decide) fun l1 vs1 H1 f1 s1 e1 i1 => ?_
    · unfold odds1
      (repeat (first | exact mk_nil | refine mk_cons ?_ ?_ | refine mk_tup ?_ (by simp) | exact mk_str (by decide +kernel) | exact mk_int _ | exact mk_non | exact mk_bl _ | exact mk_neg | exact mk_dnew | exact mk_disp1 (by decide +kernel) | exact mk_lst0 | (refine mk_var rfl ?_; assumption)))
    have g1 := good_of i1 odds1_ok
    have n1 := i1.len
    refine ⟨_, rfl, mk_list (ts := odds2) ?_ (.refl _) (by decide) fun m2 us2 H2 f2 s2 e2 i2 => ?_⟩
    · unfold odds2
      (repeat (first | exact mk_nil | refine mk_cons ?_ ?_ | refine mk_tup ?_ (by simp) | exact mk_str (by decide +kernel) | exact mk_int _ | exact mk_non | exact mk_bl _ | exact mk_neg | exact mk_dnew | exact mk_disp1 (by decide +kernel) | exact mk_lst0 | (refine mk_var rfl ?_; assumption)))
    have n2 := i2.len
    refine ⟨l1, m2, _, _, rfl, rfl, s2 _ _ e1, e2, by rw [n1, n2]; decide, fun l2 f2' => ?_⟩
    have s2' := same_upd f2' (.lst (vs1 ++ us2))
    have g2 := ((g1.same s2).append (good_of i2 odds2_ok)).same s2'
    refine ⟨_, rfl, mk_list (ts := odds3) ?_ (.refl _) (by decide) fun m3 us3 H3 f3 s3 e3 i3 => ?_⟩
    · unfold odds3
      (repeat (first | exact mk_nil | refine mk_cons ?_ ?_ | refine mk_tup ?_ (by simp) | exact mk_str (by decide +kernel) | exact mk_int _ | exact mk_non | exact mk_bl _ | exact mk_neg | exact mk_dnew | exact mk_disp1 (by decide +kernel) | exact mk_lst0 | (refine mk_var rfl ?_; assumption)))
    have n3 := i3.len
    refine ⟨l2, m3, _, _, rfl, rfl, s3 _ _ upd_same, e3, by rw [List.length_append, n1, n2, n3]; decide, fun l3 f3' => ?_⟩
    have s3' := same_upd f3' (.lst ((vs1 ++ us2) ++ us3))
    have g3 := ((g2.same s3).append (good_of i3 odds3_ok)).same s3'
    refine ⟨fun σ H' => ∃ (l4 : Addr) (vs : List V), σ = [some (.ref d), some tv, some (.ref l4), none] ∧ Same H H' ∧ H' l4 = some (.lst vs) ∧ GoodL H' vs ∧ vs.length = 39, ?_, ?_⟩
    · refine ⟨_, rfl, mk_list (ts := odds4) ?_ (.refl _) (by decide) fun m4 us4 H4 f4 s4 e4 i4 => ?_⟩
      · unfold odds4
        (repeat (first | exact mk_nil | refine mk_cons ?_ ?_ | refine mk_tup ?_ (by simp) | exact mk_str (by decide +kernel) | exact mk_int _ | exact mk_non | exact mk_bl _ | exact mk_neg | exact mk_dnew | exact mk_disp1 (by decide +kernel) | exact mk_lst0 | (refine mk_var rfl ?_; assumption)))
      have n4 := i4.len
      refine ⟨l3, m4, _, _, rfl, rfl, s4 _ _ upd_same, e4, by rw [List.length_append, List.length_append, n1, n2, n3, n4]; decide, fun l4 f4' => ?_⟩
      have s4' := same_upd f4' (.lst (((vs1 ++ us2) ++ us3) ++ us4))
      have g4 := ((g3.same s4).append (good_of i4 odds4_ok)).same s4'
      exact ⟨l4, _, rfl, ((((((s1.trans s2).trans s2').trans s3).trans s3').trans s4).trans s4'), upd_same, g4, by simp only [List.length_append, n1, n2, n3, n4]; decide⟩
    rintro σ Hb ⟨l4, vs, rfl, sAll, e4b, g4, n4⟩
    have iT : Is Hb tv (tabPV mk F cs) := hI.same sAll
    have hD7 := hD.same sAll
    have okT := tab_ok hmk hT
    obtain ⟨c0, hc0⟩ : ∃ c0, cs[0]? = some c0 := ⟨_, List.getElem?_eq_getElem (show 0 < cs.length by have := hT.len.1; omega)⟩
    obtain ⟨csL, c9, hc9⟩ : ∃ csL c9, cs = csL ++ [c9] := by
      have hne : cs ≠ [] := fun e => by have := hT.len.1; rw [e] at this; simp at this
      exact ⟨_, _, (List.dropLast_concat_getLast hne).symm⟩
    have h0 : (cs.map conPV)[0]? = some (conPV c0) := by rw [List.getElem?_map, hc0]; rfl
    have h9 : cs.map conPV = csL.map conPV ++ [conPV c9] := by rw [hc9, List.map_append]; rfl
    have m0 : c0 ∈ cs := List.mem_of_getElem? hc0
    have m9 : c9 ∈ cs := by rw [hc9]; simp
    have okC : ∀ c ∈ cs, OkW 16 6 (conPV c) := fun c hc => (okT.mem (show PV.tup (cs.map conPV) ∈ _ by simp)).mem (List.mem_map.mpr ⟨c, hc, rfl⟩)
    have mC : ∀ {σ : L2.St} {K : PySem.W.Frag}, σ[1]? = some (some tv) → MkE σ Hb (tOp (rIxT K) (tVar 1) (tC (.int 3))) (.tup (cs.map conPV)) := fun {σ K} e => mk_ix (i := 3) (ts := [.str "table", .tup mk, .tup (F.map PV.str), .tup (cs.map conPV)]) (mk_var e iT) mki_c rfl
    have mL : ∀ {σ : L2.St} {K K2 : PySem.W.Frag}, σ[1]? = some (some tv) → MkE σ Hb (tOp (rIxT K2) (tOp (rIxT K) (tVar 1) (tC (.int 3))) (tUn (rU fun i => V.int (-i)) (tC (.int 1)))) (conPV c9) := fun {σ K K2} e => mk_last (ts := csL.map conPV) (h9 ▸ mC e) (mki_neg mki_c)
    have mF : ∀ {σ : L2.St} {K K2 : PySem.W.Frag}, σ[1]? = some (some tv) → MkE σ Hb (tOp (rIxT K2) (tOp (rIxT K) (tVar 1) (tC (.int 3))) (tC (.int 0))) (conPV c0) := fun {σ K K2} e => mk_ix (i := 0) (mC e) mki_c h0
    refine go_lst (ts := [.tup mk, .tup (F.map PV.str), .tup (cs.map conPV), conPV c0, conPV c9, .tup (c0.ps.map prPV), .tup (c9.ps.map prPV), c9.ix]) ?_ (by simp) fun ml us5 H5 f5 s5 e5 i5 => ?_
    · exact mk_cons (mk_ix (i := 1) (ts := [.str "table", .tup mk, .tup (F.map PV.str), .tup (cs.map conPV)]) (mk_var rfl iT) mki_c rfl) (mk_cons (mk_ix (i := 2) (ts := [.str "table", .tup mk, .tup (F.map PV.str), .tup (cs.map conPV)]) (mk_var rfl iT) mki_c rfl) (mk_cons (mC rfl) (mk_cons (mF rfl) (mk_cons (mL rfl) (mk_cons (mk_ix (i := 1) (mF rfl) mki_c rfl) (mk_cons (mk_ix (i := 1) (mL rfl) mki_c rfl) (mk_cons (mk_ix (i := 3) (mL rfl) mki_c rfl) mk_nil)))))))
    have g5 := good_of i5 (fun t ht => by
      simp only [List.mem_cons, List.not_mem_nil, or_false] at ht
      rcases ht with rfl | rfl | rfl | rfl | rfl | rfl | rfl | rfl
      · exact (okT.mem (by simp)).mono (by decide)
      · exact (okT.mem (by simp)).mono (by decide)
      · exact (okT.mem (by simp)).mono (by decide)
      · exact (okC _ m0).mono (by decide)
      · exact (okC _ m9).mono (by decide)
      · exact ((okC _ m0).mem (by simp)).mono (by decide)
      · exact ((okC _ m9).mem (by simp)).mono (by decide)
      · exact ((okC _ m9).mem (by simp)).mono (by decide))
    have n5 := i5.len
    have lAll : (vs ++ us5).length = 47 := by
      rw [List.length_append, n4, n5]; rfl
    refine ⟨_, rfl, _, rfl, _, rfl, l4, ml, _, _, rfl, rfl, s5 _ _ e4b, e5, by rw [← List.length_append, lAll]; decide, fun l6 f6 => ?_⟩
    have s6 := same_upd f6 (.lst (vs ++ us5))
    have hD8 := (hD7.same s5).same s6
    obtain ⟨n6d, n6c⟩ := (hD7.same s5).free f6
    have g6 := ((g4.same s5).append g5).same s6
    refine ⟨d, c, l6, _, rfl, hD8, .inl upd_same, n6d, n6c, by rw [lAll]; decide, by rw [lAll]; decide, fun x H' hx x7 hD9 => ?_⟩
    obtain ⟨t, it, ot⟩ := g6 x hx
    exact q x t H' (it.ex x7 hD8) ot ((Ex.of ((sAll.trans s5).trans s6)).trans x7) hD9
end
end Kx
namespace Kx
open PySem PySem.Spec PyProof.Rows L2
section
variable {P : Program} {w : World} {K : PySem.W.Frag} {mg : Str → Option Value} {base : Heap}
set_option pp.maxSteps 900
/-! ### large tables -/
theorem Is.int_ {H : Hp} (i : Int) : Is H (.int i) (.oth (.int i)) := .int i
theorem mk_ofint {σ : L2.St} {H0 : Hp} {te : TE} {i : Int} (h : MkI σ H0 te i) : MkE σ H0 te (.oth (.int i)) := fun H Q s q => h H _ s (q _ H (.refl _) (.int i))
theorem mki_sub {σ : L2.St} {H0 : Hp} {ta tb : TE} {a b : Int} (ha : MkI σ H0 ta a) (hb : MkI σ H0 tb b) : MkI σ H0 (tOp (rI0 fun i j => V.int (i - j)) ta tb) (a - b) := fun H Q s q => ha H _ s (hb H _ s ⟨_, _, rfl, rfl, q⟩)
theorem mki_mod {σ : L2.St} {H0 : Hp} {ta tb : TE} {a b : Int} (ha : MkI σ H0 ta a) (hb : MkI σ H0 tb b) (n : b ≠ 0) : MkI σ H0 (tOp (rI (fun _ j => j ≠ 0) fun i j => V.int (i.fmod j)) ta tb) (a.fmod b) := fun H Q s q => ha H _ s (hb H _ s ⟨_, _, rfl, rfl, n, q⟩)
def rIntC : List V → Hp → VK → Prop := fun xs H Q => (∃ i, xs = [.int i] ∧ Q (.int i) H) ∨ ∃ k, xs = [.bl k] ∧ Q (.int (if k then 1 else 0)) H
theorem mki_int {σ : L2.St} {H0 : Hp} {ta : TE} {a : Int} (ha : MkI σ H0 ta a) : MkI σ H0 (tCB rIntC (tCons ta tNil)) a := fun H Q s q => ha H _ s (.inl ⟨a, rfl, q⟩)
def rStrC : List V → Hp → VK → Prop := fun xs H Q => ∃ i, xs = [.int i] ∧ i.natAbs.log2 < 1920 ∧ Q (.str (toString i)) H
def rAddS : R2 := fun x y H Q => ∃ i j, x = .str i ∧ y = .str j ∧ i.length + j.length ≤ sizeLine ∧ Q (.str (i ++ j)) H
def pn (z : Str) (i : Int) : Str := z ++ (toString i : Str)
def heads : List Str := ["m", "F", "C", "n"]
theorem num_lg : ∀ n : Nat, n < 20 → ((n : Nat) : Int).natAbs.log2 < 1920 := by decide +kernel
theorem pn_ok : ∀ z ∈ heads, ∀ n : Nat, n < 20 → sok (pn z n) = true ∧ (pn z n).length ≤ 100 ∧ z.length + (toString ((n : Nat) : Int) : Str).length ≤ 100 := by decide +kernel
theorem mk_num {σ : L2.St} {H0 : Hp} {z : Str} {ti : TE} {n : Nat} (hz : z ∈ heads) (hn : n < 20) (h : MkI σ H0 ti n) : MkE σ H0 (tOp rAddS (tC (.str z)) (tCB rStrC (tCons ti tNil))) (.str (pn z n)) := fun H Q s q =>
  h H _ s ⟨_, rfl, num_lg n hn, _, _, rfl, rfl, Nat.le_of_lt (small1000 (Nat.le_trans (pn_ok z hz n hn).2.2 (by decide))), q _ H (.refl _) (.str _ (pn_ok z hz n hn).1)⟩
theorem mk_rep {σ : L2.St} {H0 : Hp} {ti : TE} {n : Nat} (h2 : 11 ≤ n) (h3 : n < 15) (h : MkI σ H0 ti n) : MkE σ H0 (tOp rMulS (tC (.str "C")) ti) (.str (repS "C" n)) := fun H Q s q =>
  h H _ s ⟨_, n, rfl, rfl, by omega, by omega, rfl, q _ H (.refl _) (.str _ ((by decide +kernel : ∀ n : Nat, n < 15 → sok (repS "C" n) = true) n h3))⟩
theorem IsL.wrN {H : Hp} {D : Addr} {acc ys : List V} {ts : List PV} (e : H D = some (.lst acc)) (h : IsL H acc ts) : IsL (upd H D (.lst ys)) acc ts := IsL.wr e h
/-- a tuple of what a comprehension over range(n) makes -/
theorem mk_tr {σ : L2.St} {H0 : Hp} {K : PySem.W.Frag} {tn te : TE} {n : Nat} {f : Nat → PV} {k : Nat} (a : MkI σ H0 tn n) (hn : n ≤ 100)
    (b : ∀ (i : Nat) (H' : Hp), i < n → Same H0 H' → MkE ((σ.set k none).set k (some (.int (0 + i)))) H' te (f i)) :
    MkE σ H0 (tCB (rTupleG K) (tCons (tLc (iRng1 (tCons tn tNil)) (gName k) tYes te [k]) tNil)) (.tup ((List.range n).map f)) := fun H Q s q => by
  refine a H _ s ⟨n, rfl, by omega, by omega, fun D hD => ?_⟩
  refine lc_range (lo := 0) (n := ((n : Nat) : Int).toNat) (fun i H4 => Same H H4 ∧ ∃ vs, H4 D = some (.lst vs) ∧ IsL H4 vs ((List.range i).map f)) ?_ ?_ ?_
  · exact ⟨same_upd hD _, [], upd_same, .nil⟩
  · intro i H4 hi ⟨s4, vs, eD, hI⟩
    have hi' : i < n := by omega
    refine ⟨by show ((σ.set k none).set k (some (.int (0 + (i : Int))))).set k none = σ.set k none; simp only [List.set_set], ?_⟩
    refine b i H4 hi' (s.trans s4) H4 _ (.refl _) fun v H5 s5 i5 => ?_
    have eD5 := s5 _ _ eD
    have hlen := hI.len
    rw [List.length_map, List.length_range] at hlen
    refine ⟨vs, eD5, small1000 (by omega), ?_, vs ++ [v], upd_same, ?_⟩
    · exact Same.own (s4.trans s5) hD _
    · rw [List.range_succ, List.map_append]
      exact IsL.wr eD5 ((hI.same s5).append (.cons i5 .nil))
  · intro H4 ⟨s4, vs, eD, hI⟩
    rw [Int.toNat_natCast] at hI
    exact ⟨D, vs, rfl, SqL.of eD, fun l H5 hl s5 e5 => q _ H5 (s4.trans s5) (.tup e5 (hI.same s5))⟩
theorem go_kindB2 {σ : L2.St} {H : Hp} {body rest : TS} {D : Ends} {i : Nat} {k j : Int} (e : σ[i]? = some (some (.int k))) (y : k = j → body { D with nx := rest D } σ H) (n : k ≠ j → rest D σ H) : tSeq (tIfS (tTest (tOp rEq (tVar i) (tC (.int j)))) body tNext) rest D σ H := by
  refine ⟨_, e, rfl, _, rfl, ?_⟩
  rw [dec_int]
  by_cases h : k = j
  · have : (k == j) = true := by simpa using h
    rw [this]; exact iteT (y h)
  · have : (k == j) = false := by simpa using h
    rw [this]; exact iteF (n h)
theorem ok_range {n m : Nat} {f : Nat → PV} (hn : n ≤ 20) (h : ∀ i, i < n → OkW 20 m (f i)) : OkW 20 (m + 1) (.tup ((List.range n).map f)) := by
  refine ⟨by rw [List.length_map, List.length_range]; exact hn, fun t ht => ?_⟩
  obtain ⟨i, hi, rfl⟩ := List.mem_map.mp ht
  exact h i (List.mem_range.mp hi)
theorem okw_str {z : Str} (n : Nat) (h : z.length ≤ 100) : OkW 20 (n + 1) (.str z) := h
theorem okw_tup {ts : List PV} (n : Nat) (h : ts.length ≤ 20) (k : ∀ t ∈ ts, OkW 20 n t) : OkW 20 (n + 1) (.tup ts) := ⟨h, k⟩
theorem mki_cast {σ : L2.St} {H0 : Hp} {te : TE} {i j : Int} (h : MkI σ H0 te i) (e : i = j) : MkI σ H0 te j := e ▸ h
theorem for_asg {σ : L2.St} {H : Hp} {te : TE} {t : PV} {g : TG} {D : Ends} {i : Nat} {x : V} (m : MkE (σ.set i (some x)) H te t) (q : ∀ v H1, Same H H1 → Is H1 v t → g v (σ.set i (some x)) H1 D.nx) : gName i x σ H (fun σ2 H2 => tAsg te g D σ2 H2) := m H _ (.refl _) q
theorem go_c {σ : L2.St} {H : Hp} {v : V} {i : Nat} {rest : TS} {D : Ends} (h : rest D (σ.set i (some v)) H) : tSeq (tAsg (tC v) (gName i)) rest D σ H := h
def spLarge : Sp := fun vs H Q _ => ∃ (d c : Addr) (tv : V) (kind : Int) (mk : List PV) (F : List Str) (cs : List Con), vs = [.ref d, tv, .int kind] ∧ Dr H d c ∧ Is H tv (tabPV mk F cs) ∧ MkOk mk ∧ TabK F cs ∧
  ∀ v t H', Is H' v t → OkW 20 12 t → Ex d c H H' → Dr H' d c → Q v H'
theorem ok_law_large (T : Txt K mg) (G_law_draw : FnOk P w K mg base CX0 1 T.a_law_draw T.d_law_draw ["state", "many"] spDraw) : FnOk P w K mg base CX0 2 T.a_law_large T.d_law_large ["state", "table", "kind"] spLarge := by
  refine T.F_law_large.ok sc_law_large (fun vs H Q E h => ?_) (fun cdv A outer s H vs Q E hr h => ?_)
  · obtain ⟨d, c, tv, kind, mk, F, cs, rfl, _⟩ := h; rfl
  · obtain ⟨d, c, tv, kind, mk, F, cs, rfl, hD, hI, hmk, hT, q⟩ := h
    have hr_law_draw : Room 1 _ := hr.mono (by decide)
    refine ⟨_, (Evl.pss_cut (ps_set (i := 3) sc_law_large.nd rfl (Or.inr rfl) (pe_op op_add pe_int (pe_call G_law_draw hr_law_draw rfl T.m_law_draw T.F_law_draw.kp T.b_law_draw .nil pass0 (pa_cons (pv 0) (pa_cons pe_int pa_nil)))))
    (pss_cons (ps_set (i := 4) sc_law_large.nd rfl (Or.inl rfl) pe_str)
    (pss_cons (ps_if (pt_cmpR op_eq (pv 2) pe_int (nomark _)) (pss_one (ps_ret (pe_op op_catG (pe_slice sl_tupG (pv 1) po_none (po_some pe_int)) (pe_tupG (pa_cons (pe_callTy call_tupleG (by rfl) T.z_tuple (by decide +kernel) (pa_cons (pe_lc (own := [("k", 5)]) (g := (gName 5)) (tt := tYes) rfl sc_law_large.nd (pi_range1 (by rfl) T.z_range (pa_cons (pe_op op_add (pv 3) pe_int) pa_nil)) (blkOk_by (own := [("k", 5)]) (N := ["state", "table", "kind", "many", "term", "k", "parts", "more"]) (sc := defScope s_law_large) (by decide +kernel)) (fun _ _ _ _ _ => (pg_name (i := 5) sc_law_large.nd rfl (Or.inl rfl))) (fun _ _ _ _ _ => pts_nil) (fun _ _ _ _ _ => (pe_tupG (pa_cons (pe_op op_add_str pe_str (pe_callTy call_str_int (by rfl) T.z_str (by decide +kernel) (pa_cons (pv 5) pa_nil))) (pa_cons (pe_op op_modN (pe_callTy call_int1 (by rfl) T.z_int (by decide +kernel) (pa_cons (pv 5) pa_nil)) pe_int) pa_nil))))) pa_nil)) (pa_cons (pe_ix ix_tup (pv 1) pe_int (fun _ _ => rfl)) (pa_cons (pe_tupG pa_nil) pa_nil))))))) pss_nil)
    (pss_cons (ps_if (pt_cmpR op_eq (pv 2) pe_int (nomark _)) (pss_one (ps_ret (pe_op op_catG (pe_slice sl_tupG (pv 1) po_none (po_some pe_int)) (pe_tupG (pa_cons (pe_callTy call_tupleG (by rfl) T.z_tuple (by decide +kernel) (pa_cons (pe_lc (own := [("k", 5)]) (g := (gName 5)) (tt := tYes) rfl sc_law_large.nd (pi_range1 (by rfl) T.z_range (pa_cons (pv 3) pa_nil)) (blkOk_by (own := [("k", 5)]) (N := ["state", "table", "kind", "many", "term", "k", "parts", "more"]) (sc := defScope s_law_large) (by decide +kernel)) (fun _ _ _ _ _ => (pg_name (i := 5) sc_law_large.nd rfl (Or.inl rfl))) (fun _ _ _ _ _ => pts_nil) (fun _ _ _ _ _ => (pe_op op_add_str pe_str (pe_callTy call_str_int (by rfl) T.z_str (by decide +kernel) (pa_cons (pv 5) pa_nil))))) pa_nil)) (pa_cons (pe_tupG pa_nil) pa_nil)))))) pss_nil)
    (pss_cons (ps_if (pt_cmpR op_eq (pv 2) pe_int (nomark _)) (pss_one (ps_ret (pe_op op_catG (pe_slice sl_tupG (pv 1) po_none (po_some pe_int)) (pe_tupG (pa_cons (pe_callTy call_tupleG (by rfl) T.z_tuple (by decide +kernel) (pa_cons (pe_lc (own := [("k", 5)]) (g := (gName 5)) (tt := tYes) rfl sc_law_large.nd (pi_range1 (by rfl) T.z_range (pa_cons (pe_op op_add pe_int (pv 3)) pa_nil)) (blkOk_by (own := [("k", 5)]) (N := ["state", "table", "kind", "many", "term", "k", "parts", "more"]) (sc := defScope s_law_large) (by decide +kernel)) (fun _ _ _ _ _ => (pg_name (i := 5) sc_law_large.nd rfl (Or.inl rfl))) (fun _ _ _ _ _ => pts_nil) (fun _ _ _ _ _ => (pe_tupG (pa_cons (pe_op op_add_str pe_str (pe_callTy call_str_int (by rfl) T.z_str (by decide +kernel) (pa_cons (pv 5) pa_nil))) (pa_cons (pe_tupG pa_nil) (pa_cons (pe_ix (ixTK (K := K)) (pe_ix (ixTK (K := K)) (pv 1) pe_int (fun _ _ => rfl)) pe_int (fun _ _ => rfl)) (pa_cons (pe_tupG (pa_cons pe_str pa_nil)) pa_nil))))))) pa_nil)) pa_nil))))) pss_nil)
    (pss_cons (ps_if (pt_cmpR op_eq (pv 2) pe_int (nomark _)) (pss_cons (ps_set (i := 6) sc_law_large.nd rfl (Or.inl rfl) (pe_callTy call_tupleG (by rfl) T.z_tuple (by decide +kernel) (pa_cons (pe_lc (own := [("k", 5)]) (g := (gName 5)) (tt := tYes) rfl sc_law_large.nd (pi_range1 (by rfl) T.z_range (pa_cons (pe_op op_sub (pv 3) pe_int) pa_nil)) (blkOk_by (own := [("k", 5)]) (N := ["state", "table", "kind", "many", "term", "k", "parts", "more"]) (sc := defScope s_law_large) (by decide +kernel)) (fun _ _ _ _ _ => (pg_name (i := 5) sc_law_large.nd rfl (Or.inl rfl))) (fun _ _ _ _ _ => pts_nil) (fun _ _ _ _ _ => (pe_tupG (pa_cons (pe_ix (ixTK (K := K)) (pe_ix (ixTK (K := K)) (pv 1) pe_int (fun _ _ => rfl)) pe_int (fun _ _ => rfl)) (pa_cons (pe_tupG (pa_cons pe_str pa_nil)) pa_nil))))) pa_nil)))
    (pss_one (ps_ret (pe_op op_catG (pe_slice sl_tupG (pv 1) po_none (po_some pe_int)) (pe_tupG (pa_cons (pe_tupG (pa_cons (pe_tupG (pa_cons pe_str (pa_cons (pv 6) (pa_cons (pe_ix ix_tup (pe_ix ix_tup (pv 1) pe_int (fun _ _ => rfl)) pe_int (fun _ _ => rfl)) (pa_cons (pe_tupG (pa_cons pe_str pa_nil)) pa_nil))))) pa_nil)) pa_nil)))))) pss_nil)
    (pss_cons (ps_if (pt_cmpR op_eq (pv 2) pe_int (nomark _)) (pss_cons (ps_set (i := 6) sc_law_large.nd rfl (Or.inl rfl) (pe_callTy call_tupleG (by rfl) T.z_tuple (by decide +kernel) (pa_cons (pe_lc (own := [("k", 5)]) (g := (gName 5)) (tt := tYes) rfl sc_law_large.nd (pi_range1 (by rfl) T.z_range (pa_cons pe_int pa_nil)) (blkOk_by (own := [("k", 5)]) (N := ["state", "table", "kind", "many", "term", "k", "parts", "more"]) (sc := defScope s_law_large) (by decide +kernel)) (fun _ _ _ _ _ => (pg_name (i := 5) sc_law_large.nd rfl (Or.inl rfl))) (fun _ _ _ _ _ => pts_nil) (fun _ _ _ _ _ => (pe_tupG (pa_cons (pe_ix (ixTK (K := K)) (pe_ix (ixTK (K := K)) (pv 1) pe_int (fun _ _ => rfl)) pe_int (fun _ _ => rfl)) (pa_cons (pe_op op_add_str pe_str (pe_callTy call_str_int (by rfl) T.z_str (by decide +kernel) (pa_cons (pe_op op_modN (pe_callTy call_int1 (by rfl) T.z_int (by decide +kernel) (pa_cons (pv 5) pa_nil)) (pv 3)) pa_nil))) pa_nil))))) pa_nil)))
    (pss_cons (ps_set (i := 7) sc_law_large.nd rfl (Or.inl rfl) (pe_tupG (pa_cons (pe_tupG (pa_cons (pe_ix ix_tup (pe_ix ix_tup (pv 1) pe_int (fun _ _ => rfl)) pe_int (fun _ _ => rfl)) (pa_cons (pe_tupG (pa_cons pe_str (pa_cons (pe_tupG (pa_cons pe_str (pa_cons pe_str (pa_cons pe_str pa_nil)))) (pa_cons (pe_tupG (pa_cons pe_str (pa_cons pe_str (pa_cons pe_str pa_nil)))) pa_nil)))) pa_nil))) pa_nil)))
    (pss_cons (ps_set (i := 6) sc_law_large.nd rfl (Or.inl rfl) (pe_op op_catG (pe_slice sl_tupG (pv 6) po_none (po_some (pe_call G_law_draw hr_law_draw rfl T.m_law_draw T.F_law_draw.kp T.b_law_draw .nil pass0 (pa_cons (pv 0) (pa_cons pe_int pa_nil))))) (pv 7)))
    (pss_one (ps_ret (pe_tupG (pa_cons pe_str (pa_cons (pe_tupG (pa_cons (pe_tupG (pa_cons pe_str (pa_cons pe_int pa_nil))) (pa_cons (pe_tupG (pa_cons pe_str (pa_cons pe_int pa_nil))) pa_nil))) (pa_cons (pe_ix ix_tup (pv 1) pe_int (fun _ _ => rfl)) (pa_cons (pe_tupG (pa_cons (pe_tupG (pa_cons pe_str (pa_cons (pv 6) (pa_cons (pe_ix ix_tup (pe_ix ix_tup (pv 1) pe_int (fun _ _ => rfl)) pe_int (fun _ _ => rfl)) (pa_cons (pe_tupG (pa_cons pe_str pa_nil)) pa_nil))))) pa_nil)) pa_nil)))))))))) pss_nil)
    (pss_cons (ps_if (pt_cmpR op_eq (pv 2) pe_int (nomark _)) (pss_cons (ps_for PassesOwn.never rfl (pi_range1 (by rfl) T.z_range (pa_cons (pe_op op_sub (pv 3) pe_int) pa_nil)) (pg_name (i := 5) sc_law_large.nd rfl (Or.inl rfl))
    (pss_one (ps_set (i := 4) sc_law_large.nd rfl (Or.inl rfl) (pe_tupG (pa_cons pe_str (pa_cons (pv 4) pa_nil))))))
    (pss_one (ps_ret (pe_op op_catG (pe_slice sl_tupG (pv 1) po_none (po_some pe_int)) (pe_tupG (pa_cons (pe_tupG (pa_cons (pe_tupG (pa_cons pe_str (pa_cons (pe_tupG (pa_cons (pe_tupG (pa_cons (pe_ix ix_tup (pe_ix ix_tup (pv 1) pe_int (fun _ _ => rfl)) pe_int (fun _ _ => rfl)) (pa_cons (pv 4) pa_nil))) pa_nil)) (pa_cons (pe_ix ix_tup (pe_ix ix_tup (pv 1) pe_int (fun _ _ => rfl)) pe_int (fun _ _ => rfl)) (pa_cons pe_str pa_nil))))) pa_nil)) pa_nil)))))) pss_nil)
    (pss_one (ps_ret (pe_op op_catG (pe_slice sl_tupG (pv 1) po_none (po_some pe_int)) (pe_tupG (pa_cons (pe_tupG (pa_cons (pe_tupG (pa_cons (pe_op op_mulS pe_str (pe_op op_add pe_int (pv 3))) (pa_cons (pe_tupG pa_nil) (pa_cons (pe_ix ix_tup (pe_ix ix_tup (pv 1) pe_int (fun _ _ => rfl)) pe_int (fun _ _ => rfl)) (pa_cons (pe_tupG (pa_cons pe_str pa_nil)) pa_nil))))) pa_nil)) pa_nil))))))))))))), ?_⟩
    refine ⟨fun σ H' => ∃ m : Nat, σ = [some (.ref d), some tv, some (.int kind), some (.int m), none, none, none, none] ∧ Dr H' d c ∧ Ex d c H H' ∧ 3 ≤ m ∧ m ≤ 6, ?_, ?_⟩
    · refine ⟨_, rfl, d, c, 4, rfl, hD, by omega, by omega, fun r H1 r0 r1 x1 hD1 => ⟨_, _, rfl, rfl, (3 + r).toNat, ?_, hD1, x1, by omega, by omega⟩⟩
      show [some (V.ref d), some tv, some (.int kind), some (.int (3 + r)), none, none, none, none] = _
      rw [show ((3 + r).toNat : Int) = 3 + r by omega]
    rintro σ H1 ⟨m, rfl, hD1, x1, m3, m6⟩
    refine go_c ?_
    have iT : Is H1 tv (tabPV mk F cs) := hI.ex x1 hD
    have okT : OkW 20 12 (tabPV mk F cs) := ((tab_ok hmk hT).wide (by decide)).mono (by decide)
    obtain ⟨f0, hf0⟩ : ∃ f0, F[0]? = some f0 := ⟨_, List.getElem?_eq_getElem (show 0 < F.length by have := hT.fl.1; omega)⟩
    have mf0 : f0 ∈ F := List.mem_of_getElem? hf0
    have lf0 := hT.ll f0 mf0
    have hF0 : (F.map PV.str)[0]? = some (.str f0) := by rw [List.getElem?_map, hf0]; rfl
    let L : List PV := [.str "table", .tup mk, .tup (F.map PV.str), .tup (cs.map conPV)]
    have mF : ∀ {σ : L2.St} {H' : Hp} {K : PySem.W.Frag}, σ[1]? = some (some tv) → Same H1 H' → MkE σ H' (tOp (rIxT K) (tVar 1) (tC (.int 2))) (.tup (F.map PV.str)) := fun {σ H' K} e s => mk_ix (i := 2) (ts := L) (mk_var e (iT.same s)) mki_c rfl
    have m0 : ∀ {σ : L2.St} {H' : Hp} {K K2 : PySem.W.Frag}, σ[1]? = some (some tv) → Same H1 H' → MkE σ H' (tOp (rIxT K2) (tOp (rIxT K) (tVar 1) (tC (.int 2))) (tC (.int 0))) (.str f0) := fun {σ H' K K2} e s => mk_ix (i := 0) (mF e s) mki_c hF0
    have mz : ∀ {σ : L2.St} {H' : Hp}, MkE σ H' (tTupG (tCons (tC (.str "z")) tNil)) (.tup [.str "z"]) := fun {σ H'} => mk_tup (mk_cons (mk_str (by decide +kernel)) mk_nil) (by simp)
    have mcut : ∀ {σ : L2.St} {H' : Hp} {k : Int}, σ[1]? = some (some tv) → Same H1 H' → MkE σ H' (tSl rSlG (tVar 1) tNoPart (tPart (tC (.int k)))) (.tup (cutP L none (some k))) := fun {σ H' k} e s => mk_slice (mk_var e (iT.same s)) mkp_no (mkp_some mki_c)
    have cl : ∀ k : Int, (cutP L none (some k)).length ≤ 4 := fun k => by
      have h := cutP_len L none (some k)
      have : HT.sIx L.length L.length (some k) ≤ L.length := HT.sIx_le _ _ (Nat.le_refl _) _
      have h4 : L.length = 4 := rfl
      omega
    have fin : ∀ {σ : L2.St} {H' : Hp} {te : TE} {t : PV}, Ex d c H H' → Dr H' d c → MkE σ H' te t → OkW 20 12 t → te σ H' Q := fun {σ H' te t} x hD' k o => mk_go k fun v H2 s2 i2 => q v t H2 i2 o (x.trans (.of s2)) (hD'.same s2)
    have okc : ∀ (k : Int) {xs : List PV}, xs.length ≤ 3 → (∀ t ∈ xs, OkW 20 11 t) → OkW 20 12 (.tup (cutP L none (some k) ++ xs)) := fun k {xs} hl hx => by
      have := cl k
      refine ⟨by rw [List.length_append]; omega, fun t ht => ?_⟩
      rcases List.mem_append.mp ht with h | h
      · exact okT.mem (cutP_mem h)
      · exact hx t h
    have okF : OkW 20 11 (.tup (F.map PV.str)) := okT.mem (show PV.tup (F.map PV.str) ∈ L by simp [L])
    have l1 : ∀ (k : Int) (xs : List PV), xs.length ≤ 3 → (cutP L none (some k)).length + xs.length ≤ 1000 := fun k xs h => by have := cl k; omega
    -- 0
    refine go_kindN rfl (fun _ => fin x1 hD1 (mk_cat (mcut rfl (.refl _)) (mk_tup (mk_cons (mk_tr (n := m + 1) (f := fun i => .tup [.str (pn "m" i), .oth (.int ((i : Int).fmod 3))]) (mki_cast (mki_add (mki_var rfl) mki_c) (by omega)) (by omega) fun i H' hi s => ?_) (mk_cons (mF rfl (.refl _)) (mk_cons (mk_tup mk_nil (by simp)) mk_nil))) (by simp)) (l1 _ _ (by simp))) (okc _ (by simp) fun t ht => ?_)) fun _ => ?_
    · refine mk_tup (mk_cons (mk_num (by decide) (by omega) (mki_var (by show some (some (V.int (0 + (i : Int)))) = _; rw [Int.zero_add]))) (mk_cons (mk_ofint (mki_mod (mki_int (mki_var (by show some (some (V.int (0 + (i : Int)))) = _; rw [Int.zero_add]))) mki_c (by decide))) mk_nil)) (by simp)
    · simp only [List.mem_cons, List.not_mem_nil, or_false] at ht
      rcases ht with rfl | rfl | rfl
      · refine ok_range (m := 10) (by omega) fun i hi => okw_tup 9 (by simp) fun t ht => ?_
        simp only [List.mem_cons, List.not_mem_nil, or_false] at ht
        rcases ht with rfl | rfl
        · exact okw_str 8 (pn_ok "m" (by decide) i (by omega)).2.1
        · trivial
      · exact okF
      · exact okw_tup 10 (by simp) (by simp)
    -- 1
    refine go_kindN rfl (fun _ => fin x1 hD1 (mk_cat (mcut rfl (.refl _)) (mk_tup (mk_cons (mk_tr (n := m) (f := fun i => .str (pn "F" i)) (mki_var rfl) (by omega) fun i H' hi s => ?_) (mk_cons (mk_tup mk_nil (by simp)) mk_nil)) (by simp)) (l1 _ _ (by simp))) (okc _ (by simp) fun t ht => ?_)) fun _ => ?_
    · exact mk_num (by decide) (by omega) (mki_var (by show some (some (V.int (0 + (i : Int)))) = _; rw [Int.zero_add]))
    · simp only [List.mem_cons, List.not_mem_nil, or_false] at ht
      rcases ht with rfl | rfl
      · exact ok_range (m := 10) (by omega) fun i hi => okw_str 9 (pn_ok "F" (by decide) i (by omega)).2.1
      · exact okw_tup 10 (by simp) (by simp)
    -- 2
    refine go_kindN rfl (fun _ => fin x1 hD1 (mk_cat (mcut rfl (.refl _)) (mk_tup (mk_cons (mk_tr (n := 12 + m) (f := fun i => .tup [.str (pn "C" i), .tup [], .str f0, .tup [.str "z"]]) (mki_cast (mki_add mki_c (mki_var rfl)) (by omega)) (by omega) fun i H' hi s => ?_) mk_nil) (by simp)) (l1 _ _ (by simp))) (okc _ (by simp) fun t ht => ?_)) fun _ => ?_
    · exact mk_tup (mk_cons (mk_num (by decide) (by omega) (mki_var (by show some (some (V.int (0 + (i : Int)))) = _; rw [Int.zero_add]))) (mk_cons (mk_tup mk_nil (by simp)) (mk_cons (m0 rfl s) (mk_cons mz mk_nil)))) (by simp)
    · rw [List.mem_singleton.mp ht]
      refine ok_range (m := 10) (by omega) fun i hi => okw_tup 9 (by simp) fun t ht => ?_
      simp only [List.mem_cons, List.not_mem_nil, or_false] at ht
      rcases ht with rfl | rfl | rfl | rfl
      · exact okw_str 8 (pn_ok "C" (by decide) i (by omega)).2.1
      · exact okw_tup 8 (by simp) (by simp)
      · exact okw_str 8 lf0
      · exact ((by decide +kernel : OkW 20 9 (.tup [.str "z"])))
    -- 3
    refine go_kindB2 rfl (fun _ => ?_) fun _ => ?_
    · refine go_asg (mk_tr (n := m - 1) (f := fun i => .tup [.str f0, .tup [.str "z"]]) (mki_cast (mki_sub (mki_var rfl) mki_c) (by omega)) (by omega) fun i H' hi s => mk_tup (mk_cons (m0 rfl s) (mk_cons mz mk_nil)) (by simp)) fun v2 H2 s2 i2 => ?_
      refine fin (x1.trans (.of s2)) (hD1.same s2) (mk_cat (mcut rfl s2) (mk_tup (mk_cons (mk_tup (mk_cons (mk_tup (mk_cons (mk_str (by decide +kernel)) (mk_cons (mk_var rfl i2) (mk_cons (m0 rfl s2) (mk_cons mz mk_nil)))) (by simp)) mk_nil) (by simp)) mk_nil) (by simp)) (l1 _ _ (by simp))) (okc _ (by simp) fun t ht => ?_)
      rw [List.mem_singleton.mp ht]
      refine okw_tup 10 (by simp) fun t ht => ?_
      rw [List.mem_singleton.mp ht]
      refine okw_tup 9 (by simp) fun t ht => ?_
      simp only [List.mem_cons, List.not_mem_nil, or_false] at ht
      rcases ht with rfl | rfl | rfl | rfl
      · exact okw_str 8 (by decide +kernel)
      · refine ok_range (m := 8) (by omega) fun i hi => okw_tup 7 (by simp) fun t ht => ?_
        simp only [List.mem_cons, List.not_mem_nil, or_false] at ht
        rcases ht with rfl | rfl
        · exact okw_str 6 lf0
        · exact ((by decide +kernel : OkW 20 7 (.tup [.str "z"])))
      · exact okw_str 8 lf0
      · exact ((by decide +kernel : OkW 20 9 (.tup [.str "z"])))
    -- 4
    refine go_kindB2 rfl (fun _ => ?_) fun _ => ?_
    · let fp : Nat → PV := fun i => .tup [.str f0, .str (pn "n" ((i % m : Nat) : Int))]
      refine go_asg (mk_tr (n := 3) (f := fp) mki_c (by omega) fun i H' hi s => mk_tup (mk_cons (m0 rfl s) (mk_cons (mk_num (n := i % m) (by decide) (by have := Nat.mod_lt i (show 0 < m by omega); omega) ?_) mk_nil)) (by simp)) fun v2 H2 s2 i2 => ?_
      · rw [show ((i % m : Nat) : Int) = ((i : Int)).fmod (m : Int) by rw [Int.fmod_eq_emod_of_nonneg _ (by omega)]; exact Int.natCast_emod _ _]
        exact mki_mod (mki_int (mki_var (by show some (some (V.int (0 + (i : Int)))) = _; rw [Int.zero_add]))) (mki_var rfl) (by omega)
      let mo : List PV := [.tup [.str f0, .tup [.str "p", .tup [.str "p", .str "n3", .str "n4"], .tup [.str "p", .str "n5", .str "n2"]]]]
      refine go_asg (t := .tup mo) (mk_tup (mk_cons (mk_tup (mk_cons (m0 rfl s2) (mk_cons (mk_tup (mk_cons (mk_str (by decide +kernel)) (mk_cons (mk_tup (mk_cons (mk_str (by decide +kernel)) (mk_cons (mk_str (by decide +kernel)) (mk_cons (mk_str (by decide +kernel)) mk_nil))) (by simp)) (mk_cons (mk_tup (mk_cons (mk_str (by decide +kernel)) (mk_cons (mk_str (by decide +kernel)) (mk_cons (mk_str (by decide +kernel)) mk_nil))) (by simp)) mk_nil))) (by simp)) mk_nil)) (by simp)) mk_nil) (by show 1 ≤ 1000; decide)) fun v3 H3 s3 i3 => ?_
      have s13 := s2.trans s3
      refine ⟨v2, rfl, _, rfl, d, c, 3, rfl, hD1.same s13, by omega, by omega, fun r H4 r0 r1 x4 hD4 => ⟨r, rfl, ?_⟩⟩
      obtain ⟨p2, us2, rfl, ep2, hL2⟩ := ((i2.same s3).ex x4 (hD1.same s13)).tup_inv
      obtain ⟨p3, us3, rfl, ep3, hL3⟩ := (i3.ex x4 (hD1.same s13)).tup_inv
      refine ⟨p2, us2, rfl, ep2, fun p5 H5 s5 e5 => ⟨_, rfl, p5, p3, _, us3, rfl, rfl, e5, ep3.same s5, ?_, fun p6 H6 s6 e6 => ?_⟩⟩
      · have h2 := hL2.len
        have h3 := hL3.len
        rw [List.length_map, List.length_range] at h2
        have h4 := (hL2.cut none (some r)).len
        have h5 : (cutV us2 none (some r)).length ≤ us2.length := by unfold cutV; exact Nat.le_trans (List.length_take_le' ..) (by rw [List.length_drop]; omega)
        rw [h3]
        exact Nat.le_of_lt (small1000 (by show _ + 1 ≤ 1000; omega))
      have xx : Ex d c H H6 := ((x1.trans (.of s13)).trans x4).trans (.of (s5.trans s6))
      have i6 : Is H6 (.ref p6) (.tup (cutP ((List.range 3).map fp) none (some r) ++ mo)) := .tup e6 ((((hL2.cut none (some r)).same s5).append (hL3.same s5)).same s6)
      have iT6 : Is H6 tv (tabPV mk F cs) := (((iT.same s13).ex x4 (hD1.same s13)).same s5).same s6
      have hD6 := (hD4.same s5).same s6
      refine fin (t := .tup [.str "table", .tup [.tup [.str "z", .oth (.int 0)], .tup [.str "p", .oth (.int 2)]], .tup (F.map PV.str), .tup [.tup [.str "C", .tup (cutP ((List.range 3).map fp) none (some r) ++ mo), .str f0, .tup [.str "z"]]]]) xx hD6 (mk_tup (mk_cons (mk_str (by decide +kernel)) (mk_cons (mk_tup (mk_cons (mk_tup (mk_cons (mk_str (by decide +kernel)) (mk_cons (mk_int _) mk_nil)) (by simp)) (mk_cons (mk_tup (mk_cons (mk_str (by decide +kernel)) (mk_cons (mk_int _) mk_nil)) (by simp)) mk_nil)) (by simp)) (mk_cons (mk_ix (i := 2) (ts := L) (mk_var rfl iT6) mki_c rfl) (mk_cons (mk_tup (mk_cons (mk_tup (mk_cons (mk_str (by decide +kernel)) (mk_cons (mk_var rfl i6) (mk_cons (mk_ix (i := 0) (mk_ix (i := 2) (ts := L) (mk_var rfl iT6) mki_c rfl) mki_c hF0) (mk_cons mz mk_nil)))) (by simp)) mk_nil) (by simp)) mk_nil)))) (by simp)) ?_
      refine okw_tup 11 (by simp) fun t ht => ?_
      simp only [List.mem_cons, List.not_mem_nil, or_false] at ht
      rcases ht with rfl | rfl | rfl | rfl
      · exact okw_str 10 (by decide +kernel)
      · exact ((by decide +kernel : OkW 20 11 (.tup [.tup [.str "z", .oth (.int 0)], .tup [.str "p", .oth (.int 2)]])))
      · exact okF
      · refine okw_tup 10 (by simp) fun t ht => ?_
        rw [List.mem_singleton.mp ht]
        refine okw_tup 9 (by simp) fun t ht => ?_
        simp only [List.mem_cons, List.not_mem_nil, or_false] at ht
        rcases ht with rfl | rfl | rfl | rfl
        · exact okw_str 8 (by decide +kernel)
        · have h5 := (hL2.cut none (some r)).len
          have h6 : (cutV us2 none (some r)).length ≤ us2.length := by unfold cutV; exact Nat.le_trans (List.length_take_le' ..) (by rw [List.length_drop]; omega)
          have h7 := hL2.len
          rw [List.length_map, List.length_range] at h7
          refine okw_tup 8 (by rw [List.length_append]; show _ + 1 ≤ 20; omega) fun t ht => ?_
          rcases List.mem_append.mp ht with h | h
          · obtain ⟨i, hi, rfl⟩ := List.mem_map.mp (cutP_mem h)
            refine okw_tup 7 (by simp) fun t ht => ?_
            simp only [List.mem_cons, List.not_mem_nil, or_false] at ht
            rcases ht with rfl | rfl
            · exact okw_str 6 lf0
            · exact okw_str 6 (pn_ok "n" (by decide) (i % m) (by have := Nat.mod_lt i (show 0 < m by omega); omega)).2.1
          · rw [List.mem_singleton.mp h]
            refine okw_tup 7 (by simp) fun t ht => ?_
            simp only [List.mem_cons, List.not_mem_nil, or_false] at ht
            rcases ht with rfl | rfl
            · exact okw_str 6 lf0
            · exact ((by decide +kernel : OkW 20 7 (.tup [.str "p", .tup [.str "p", .str "n3", .str "n4"], .tup [.str "p", .str "n5", .str "n2"]])))
        · exact okw_str 8 lf0
        · exact ((by decide +kernel : OkW 20 9 (.tup [.str "z"])))
    -- 5
    refine go_kindB2 rfl (fun _ => ?_) fun _ => ?_
    · refine ⟨_, rfl, _, _, rfl, rfl, (m : Int) - 1, rfl, by omega, by omega, ?_⟩
      refine for_range (n := ((m : Int) - 1).toNat) (fun i σ H2 => ∃ (y5 : Option V) (v : V) (t : PV), σ = [some (.ref d), some tv, some (.int kind), some (.int m), some v, y5, none, none] ∧ Same H1 H2 ∧ Is H2 v t ∧ OkW 20 (i + 1) t) ?_ ?_ ?_
      · exact ⟨_, _, .str "n", rfl, .refl _, .str _ (by decide +kernel), okw_str 0 (by decide +kernel)⟩
      · rintro i σ H2 hi ⟨y5, v, t, rfl, s2, i2, o2⟩
        have mT : MkE [some (.ref d), some tv, some (.int kind), some (.int m), some v, some (.int (0 + i)), none, none] H2 (tTupG (tCons (tC (.str "s")) (tCons (tVar 4) tNil))) (.tup [.str "s", t]) := mk_tup (mk_cons (mk_str (by decide +kernel)) (mk_cons (mk_var rfl i2) mk_nil)) (by simp)
        refine for_asg mT fun v' H' s' i' => ⟨_, v', _, rfl, s2.trans s', i', ?_⟩
        refine okw_tup (i + 1) (by simp) fun t' ht => ?_
        simp only [List.mem_cons, List.not_mem_nil, or_false] at ht
        rcases ht with rfl | rfl
        · exact okw_str i (by decide +kernel)
        · exact o2
      · rintro σ H2 ⟨y5, v, t, rfl, s2, i2, o2⟩
        have o2' : OkW 20 6 t := o2.mono (by omega)
        refine fin (x1.trans (.of s2)) (hD1.same s2) (mk_cat (mcut rfl s2) (mk_tup (mk_cons (mk_tup (mk_cons (mk_tup (mk_cons (mk_str (by decide +kernel)) (mk_cons (mk_tup (mk_cons (mk_tup (mk_cons (m0 rfl s2) (mk_cons (mk_var rfl i2) mk_nil)) (by simp)) mk_nil) (by simp)) (mk_cons (m0 rfl s2) (mk_cons (mk_str (by decide +kernel)) mk_nil)))) (by simp)) mk_nil) (by simp)) mk_nil) (by simp)) (l1 _ _ (by simp))) (okc _ (by simp) fun t' ht => ?_)
        rw [List.mem_singleton.mp ht]
        refine okw_tup 10 (by simp) fun t' ht => ?_
        rw [List.mem_singleton.mp ht]
        refine okw_tup 9 (by simp) fun t' ht => ?_
        simp only [List.mem_cons, List.not_mem_nil, or_false] at ht
        rcases ht with rfl | rfl | rfl | rfl
        · exact okw_str 8 (by decide +kernel)
        · refine okw_tup 8 (by simp) fun t' ht => ?_
          rw [List.mem_singleton.mp ht]
          refine okw_tup 7 (by simp) fun t' ht => ?_
          simp only [List.mem_cons, List.not_mem_nil, or_false] at ht
          rcases ht with rfl | rfl
          · exact okw_str 6 lf0
          · exact o2'.mono (by decide)
        · exact okw_str 8 lf0
        · exact okw_str 8 (by decide +kernel)
    -- 6
    refine fin x1 hD1 (mk_cat (mcut rfl (.refl _)) (mk_tup (mk_cons (mk_tup (mk_cons (mk_tup (mk_cons (mk_rep (n := 8 + m) (by omega) (by omega) (mki_cast (mki_add mki_c (mki_var rfl)) (by omega))) (mk_cons (mk_tup mk_nil (by simp)) (mk_cons (m0 rfl (.refl _)) (mk_cons mz mk_nil)))) (by simp)) mk_nil) (by simp)) mk_nil) (by simp)) (l1 _ _ (by simp))) (okc _ (by simp) fun t ht => ?_)
    rw [List.mem_singleton.mp ht]
    refine okw_tup 10 (by simp) fun t ht => ?_
    rw [List.mem_singleton.mp ht]
    refine okw_tup 9 (by simp) fun t ht => ?_
    simp only [List.mem_cons, List.not_mem_nil, or_false] at ht
    rcases ht with rfl | rfl | rfl | rfl
    · refine okw_str 8 ?_
      rw [repS_len]
      show (8 + m) * 1 ≤ 100
      omega
    · exact okw_tup 8 (by simp) (by simp)
    · exact okw_str 8 lf0
    · exact ((by decide +kernel : OkW 20 9 (.tup [.str "z"])))
end
end Kx
namespace Kx
open PySem PySem.Spec PyProof.Rows L2
section
variable {P : Program} {w : World} {K : PySem.W.Frag} {mg : Str → Option Value} {base : Heap}
set_option pp.maxSteps 900
theorem FnOk.weak {k : Nat} {f : Addr} {fd : FuncData} {ps : List Str} {sp sp' : Sp} {CX : CXT} (F : FnOk P w K mg base CX k f fd ps sp) (h : ∀ vs H Q E, sp' vs H Q E → sp vs H Q E) : FnOk P w K mg base CX k f fd ps sp' :=
  ⟨fun vs H Q E g => F.len vs H Q E (h vs H Q E g), fun A outer s H args us vs Q E a b c d g => F.run A outer s H args us vs Q E a b c d (h vs H Q E g)⟩
theorem no_left {f : Addr} {fd : FuncData} {ps : List Str} {k : Nat} {sp : Sp} {CX : CXT} (no : ∀ vs H Q E, ¬ sp vs H Q E) : FnOk P w K mg base CX k f fd ps sp :=
  ⟨fun vs H Q E h => absurd h (no vs H Q E), fun A outer s H args us vs Q E _ _ _ _ h => absurd h (no vs H Q E)⟩
/-- one of several promises -/
def spUp (sp : Nat → Sp) (n : Nat) : Sp := fun vs H Q E => ∃ k, k ≤ n ∧ sp k vs H Q E
theorem FnOk.up {j : Nat} {f : Addr} {fd : FuncData} {ps : List Str} {sp : Nat → Sp} {CX : CXT} {n : Nat} (F : ∀ k, k ≤ n → FnOk P w K mg base CX j f fd ps (sp k)) : FnOk P w K mg base CX j f fd ps (spUp sp n) :=
  ⟨fun vs H Q E ⟨k, hk, g⟩ => (F k hk).len vs H Q E g, fun A outer s H args us vs Q E a b c d ⟨k, hk, g⟩ => (F k hk).run A outer s H args us vs Q E a b c d g⟩
/-! ### what is asked -/
def GoodA (H : Hp) (vs : List V) : Prop := ∀ x ∈ vs, ∃ t, Is H x t ∧ Ok 32 t
theorem GoodA.same {H H' : Hp} {vs : List V} (s : Same H H') (g : GoodA H vs) : GoodA H' vs := fun x hx => by
  obtain ⟨t, i, o⟩ := g x hx
  exact ⟨t, i.same s, o⟩
theorem GoodA.ex {d c : Addr} {H H' : Hp} {vs : List V} (x : Ex d c H H') (h : Dr H d c) (g : GoodA H vs) : GoodA H' vs := fun y hy => by
  obtain ⟨t, i, o⟩ := g y hy
  exact ⟨t, i.ex x h, o⟩
theorem GoodA.wr {H : Hp} {D : Addr} {acc ys vs : List V} (e : H D = some (.lst acc)) (g : GoodA H vs) : GoodA (upd H D (.lst ys)) vs := fun y hy => by
  obtain ⟨t, i, o⟩ := g y hy
  exact ⟨t, Is.wr e i, o⟩
theorem GoodA.append {H : Hp} {vs us : List V} (a : GoodA H vs) (b : GoodA H us) : GoodA H (vs ++ us) := fun x hx => by
  rcases List.mem_append.mp hx with h | h
  · exact a x h
  · exact b x h
theorem GoodA.cut {H : Hp} {vs : List V} (g : GoodA H vs) (lo hi : Option Int) : GoodA H (cutV vs lo hi) := fun x hx => g x (List.mem_of_mem_drop (List.mem_of_mem_take hx))
theorem GoodA.rev {H : Hp} {vs : List V} (g : GoodA H vs) : GoodA H vs.reverse := fun x hx => g x (List.mem_reverse.mp hx)
theorem cutV_le (vs : List V) (lo hi : Option Int) : (cutV vs lo hi).length ≤ vs.length := by
  unfold cutV
  exact Nat.le_trans (List.length_take_le' ..) (by rw [List.length_drop]; omega)
theorem goodA_of {H : Hp} {vs : List V} {ts : List PV} (h : IsL H vs ts) (o : ∀ t ∈ ts, Ok 32 t) : GoodA H vs := fun x hx => by
  obtain ⟨t, m, i⟩ := h.mem_of x hx
  exact ⟨t, i, o t m⟩
theorem go_lcat {σ : L2.St} {H : Hp} {ta : TA} {tb : TE} {r : R2} {ts : List PV} {g : TG} {rest : TS} {D : Ends} (a : MkA σ H ta ts) (hl : ts.length ≤ 1000) (q : ∀ l vs H', H l = none → Same H H' → H' l = some (.lst vs) → IsL H' vs ts → tb σ H' fun y H2 => r (.ref l) y H2 fun z H3 => g z σ H3 fun σ2 H4 => rest D σ2 H4) : tSeq (tAsg (tOp r (tLst ta) tb) g) rest D σ H :=
  a H _ (.refl _) fun vs H1 s1 i1 => ⟨Nat.le_of_lt (small1000 (by rw [i1.len]; exact hl)), fun p hp => q p vs _ (s1.free hp) (s1.trans (same_upd hp _)) upd_same (i1.same (same_upd hp _))⟩
def spLaw (K : PySem.W.Frag) : Sp := fun vs H Q _ => ∃ (a : Addr) (ns : List Int), vs = [.ref a] ∧ SqL K H a (ns.map V.int) ∧ ns.length ≤ 63 ∧ ∀ H', Q (.bl true) H'
theorem ok_law (T : Txt K mg) (G_law_state : FnOk P w K mg base CX0 1 T.a_law_state T.d_law_state ["script"] (spState K)) (G_law_table : FnOk P w K mg base CX0 3 T.a_law_table T.d_law_table ["state"] spTable) (G_law_draw : FnOk P w K mg base CX0 1 T.a_law_draw T.d_law_draw ["state", "many"] spDraw) (G_law_odd : FnOk P w K mg base CX0 3 T.a_law_odd T.d_law_odd ["state", "table"] spOdd) (G_law_spoilt : FnOk P w K mg base CX0 26 T.a_law_spoilt T.d_law_spoilt ["state", "value", "odd"] (spUp spSpoilt 24)) (G_law_large : FnOk P w K mg base CX0 2 T.a_law_large T.d_law_large ["state", "table", "kind"] spLarge) (G_law_is_table : FnOk P w K mg base CX0 33 T.a_law_is_table T.d_law_is_table ["value"] spLTab) (G_is_table : FnOk P w K mg base CX0 37 T.a_is_table T.d_is_table ["value"] spIsTab) (G_law_told : FnOk P w K mg base CX0 39 T.a_law_told T.d_law_told ["value"] spLTold) (G_law_same : FnOk P w K mg base CX0 1 T.a_law_same T.d_law_same ["flag", "due"] spSame) (G_is_word : FnOk P w K mg base CX0 1 T.a_is_word T.d_is_word ["value"] spWord) (G_law_is_word : FnOk P w K mg base CX0 1 T.a_law_is_word T.d_law_is_word ["value"] spLWord) : FnOk P w K mg base CX0 40 T.a_law T.d_law ["script"] (spLaw K) := by
  refine T.F_law.ok sc_law (fun vs H Q E h => ?_) (fun cdv A outer s H vs Q E hr h => ?_)
  · obtain ⟨a, ns, rfl, _⟩ := h; rfl
  · obtain ⟨a, ns, rfl, hS, h63, q⟩ := h
    have hr_law_state : Room 1 _ := hr.mono (by decide)
    have hr_law_draw : Room 1 _ := hr.mono (by decide)
    have hr_law_same : Room 1 _ := hr.mono (by decide)
    have hr_is_word : Room 1 _ := hr.mono (by decide)
    have hr_law_is_word : Room 1 _ := hr.mono (by decide)
    have hr_law_large : Room 2 _ := hr.mono (by decide)
    have hr_law_odd : Room 3 _ := hr.mono (by decide)
    have hr_law_table : Room 3 _ := hr.mono (by decide)
    have hr_law_spoilt : Room 26 _ := hr.mono (by decide)
    have hr_law_is_table : Room 33 _ := hr.mono (by decide)
    have hr_is_table : Room 37 _ := hr.mono (by decide)
    have hr_law_told : Room 39 _ := hr
    refine ⟨_, (pss_cons (ps_set (i := 1) sc_law.nd rfl (Or.inr rfl) (pe_call G_law_state hr_law_state rfl T.m_law_state T.F_law_state.kp T.b_law_state .nil pass0 (pa_cons (pv 0) pa_nil)))
    (pss_cons (ps_set (i := 2) sc_law.nd rfl (Or.inr rfl) (pe_call G_law_table hr_law_table rfl T.m_law_table T.F_law_table.kp T.b_law_table .nil pass0 (pa_cons (pv 1) pa_nil)))
    (pss_cons (ps_set (i := 3) sc_law.nd rfl (Or.inl rfl) (pv 2))
    (pss_cons (ps_for PassesOwn.never rfl (pi_range1 (by rfl) T.z_range (pa_cons (pe_call G_law_draw hr_law_draw rfl T.m_law_draw T.F_law_draw.kp T.b_law_draw .nil pass0 (pa_cons (pv 1) (pa_cons pe_int pa_nil))) pa_nil)) (pg_name (i := 4) sc_law.nd rfl (Or.inl rfl))
    (pss_one (ps_set (i := 3) sc_law.nd rfl (Or.inl rfl) (pe_call G_law_spoilt hr_law_spoilt rfl T.m_law_spoilt T.F_law_spoilt.kp T.b_law_spoilt .nil pass0 (pa_cons (pv 1) (pa_cons (pv 3) (pa_cons (pe_call G_law_odd hr_law_odd rfl T.m_law_odd T.F_law_odd.kp T.b_law_odd .nil pass0 (pa_cons (pv 1) (pa_cons (pv 2) pa_nil))) pa_nil)))))))
    (pss_cons (ps_set (i := 5) sc_law.nd rfl (Or.inl rfl) (pe_op op_cat (pe_lst (pa_cons (pv 2) (pa_cons pe_non (pa_cons (pv 3) (pa_cons (pv 2) pa_nil))))) (pe_lc (own := [("kind", 8)]) (g := (gName 8)) (tt := tYes) rfl sc_law.nd (pi_range1 (by rfl) T.z_range (pa_cons pe_int pa_nil)) (blkOk_by (own := [("kind", 8)]) (N := ["script", "state", "table", "value", "turn", "asked", "due", "word", "kind"]) (sc := defScope s_law) (by decide +kernel)) (fun _ _ _ _ _ => (pg_name (i := 8) sc_law.nd rfl (Or.inl rfl))) (fun _ _ _ _ _ => pts_nil) (fun _ _ _ _ _ => (pe_call G_law_large hr_law_large rfl T.m_law_large T.F_law_large.kp T.b_law_large .nil pass0 (pa_cons (pv 1) (pa_cons (pv 2) (pa_cons (pv 8) pa_nil))))))))
    (pss_cons (ps_set (i := 4) sc_law.nd rfl (Or.inl rfl) (pe_call G_law_draw hr_law_draw rfl T.m_law_draw T.F_law_draw.kp T.b_law_draw .nil pass0 (pa_cons (pv 1) (pa_cons (pe_callB call_len_seq (by rfl) T.z_len (by decide +kernel) (pa_cons (pv 5) pa_nil)) pa_nil))))
    (pss_cons (ps_set (i := 5) sc_law.nd rfl (Or.inl rfl) (pe_op op_cat (pe_slice sl_list (pv 5) (po_some (pv 4)) po_none) (pe_slice sl_list (pv 5) po_none (po_some (pv 4)))))
    (Evl.pss_cut (ps_if (pt_cmpR op_eq (pe_call G_law_draw hr_law_draw rfl T.m_law_draw T.F_law_draw.kp T.b_law_draw .nil pass0 (pa_cons (pv 1) (pa_cons pe_int pa_nil))) pe_int (nomark _)) (pss_one (ps_set (i := 5) sc_law.nd rfl (Or.inl rfl) (pe_revL (pv 5)))) pss_nil)
    (pss_cons (ps_for PassesOwn.never rfl (pi_list (pe_op op_cat (pv 5) (pe_slice sl_list (pv 5) po_none (po_some pe_int)))) (pg_name (i := 3) sc_law.nd rfl (Or.inl rfl))
    (pss_cons (ps_set (i := 6) sc_law.nd rfl (Or.inl rfl) (pe_call G_law_is_table hr_law_is_table rfl T.m_law_is_table T.F_law_is_table.kp T.b_law_is_table .nil pass0 (pa_cons (pv 3) pa_nil)))
    (pss_one (ps_if (PW.pt (pw_or (pt_not (pt_val (pe_call G_law_same hr_law_same rfl T.m_law_same T.F_law_same.kp T.b_law_same .nil pass0 (pa_cons (pe_call G_is_table hr_is_table rfl T.m_is_table T.F_is_table.kp T.b_is_table .nil pass0 (pa_cons (pv 3) pa_nil)) (pa_cons (pv 6) pa_nil))))) (pw_or1 (pt_not (pt_val (pe_call G_law_same hr_law_same rfl T.m_law_same T.F_law_same.kp T.b_law_same .nil pass0 (pa_cons (pe_call G_law_told hr_law_told rfl T.m_law_told T.F_law_told.kp T.b_law_told .nil pass0 (pa_cons (pv 3) pa_nil)) (pa_cons (pv 6) pa_nil)))))))) (pss_one (ps_ret pe_bl)) pss_nil))))
    (pss_cons (ps_for PassesOwn.never rfl (pi_range1 (by rfl) T.z_range (pa_cons pe_int pa_nil)) (pg_name (i := 4) sc_law.nd rfl (Or.inl rfl))
    (pss_cons (ps_set (i := 7) sc_law.nd rfl (Or.inl rfl) (pe_call G_law_odd hr_law_odd rfl T.m_law_odd T.F_law_odd.kp T.b_law_odd .nil pass0 (pa_cons (pv 1) (pa_cons (pv 2) pa_nil))))
    (pss_one (ps_if (pt_not (pt_val (pe_call G_law_same hr_law_same rfl T.m_law_same T.F_law_same.kp T.b_law_same .nil pass0 (pa_cons (pe_call G_is_word hr_is_word rfl T.m_is_word T.F_is_word.kp T.b_is_word .nil pass0 (pa_cons (pv 7) pa_nil)) (pa_cons (pe_call G_law_is_word hr_law_is_word rfl T.m_law_is_word T.F_law_is_word.kp T.b_law_is_word .nil pass0 (pa_cons (pv 7) pa_nil)) pa_nil))))) (pss_one (ps_ret pe_bl)) pss_nil))))
    (pss_one (ps_ret pe_bl)))))))))))), ?_⟩
    refine ⟨_, rfl, a, ns, rfl, hS, h63, fun d c H1 s1 D1 => ?_⟩
    refine ⟨_, rfl, d, c, rfl, D1, fun tv H2 mk F cs iT2 hmk hT x2 D2 => ?_⟩
    refine ⟨_, rfl, ?_⟩
    have okT := tab_ok hmk hT
    refine ⟨_, rfl, d, c, 4, rfl, D2, by omega, by omega, fun r H3 r0 r1 x3 D3 => ⟨r, rfl, by omega, by omega, ?_⟩⟩
    refine for_range (n := r.toNat) (fun i σ H' => ∃ (y4 : Option V) (v : V) (t : PV), σ = [some (.ref a), some (.ref d), some tv, some v, y4, none, none, none, none] ∧ Is H' v t ∧ OkW (16 + i) (8 + 8 * i) t ∧ Is H' tv (tabPV mk F cs) ∧ Dr H' d c) ?_ ?_ ?_
    · exact ⟨_, tv, _, rfl, iT2.ex x3 D2, okT, iT2.ex x3 D2, D3⟩
    · rintro i σ H4 hi ⟨y4, v, t, rfl, iv, ov, iT4, D4⟩
      refine ⟨_, rfl, _, rfl, _, rfl, _, rfl, d, c, tv, mk, F, cs, rfl, D4, iT4, hmk, hT, fun o ot H5 i5 o5 x5 D5 => ?_⟩
      refine ⟨8 + 8 * i, by omega, d, c, v, o, t, ot, 16 + i, 8, rfl, D5, iv.ex x5 D4, ov, i5, o5.wide (by omega), by omega, fun v' t' H6 i6 o6 x6 D6 => ?_⟩
      exact ⟨_, v', t', rfl, i6, o6.mono (by omega), (iT4.ex x5 D4).ex x6 D5, D6⟩
    rintro σ H4 ⟨y4, v, t, rfl, iv, ov, iT4, D4⟩
    have okv : Ok 32 t := (ov.wide (by omega)).mono (by omega)
    have okT32 : Ok 32 (tabPV mk F cs) := (okT.wide (by decide)).mono (by decide)
    refine go_lcat (ts := [tabPV mk F cs, .oth .non, t, tabPV mk F cs]) (mk_cons (mk_var rfl iT4) (mk_cons mk_non (mk_cons (mk_var rfl iv) (mk_cons (mk_var rfl iT4) mk_nil)))) (by simp) fun l1 vs1 H5 f5 s5 e5 i5 => ?_
    have g5 : GoodA H5 vs1 := goodA_of i5 fun t' ht => by
      simp only [List.mem_cons, List.not_mem_nil, or_false] at ht
      rcases ht with rfl | rfl | rfl | rfl
      · exact okT32
      · trivial
      · exact okv
      · exact okT32
    have n5 : vs1.length = 4 := i5.len
    have D5 := D4.same s5
    have iT5 := iT4.same s5
    obtain ⟨n1d, n1c⟩ := D4.free f5
    refine ⟨7, rfl, by decide, by decide, fun D hDn => ?_⟩
    obtain ⟨nDd, nDc⟩ := D5.free hDn
    refine lc_range (lo := 0) (n := ((7 : Int)).toNat) (fun i H6 => Ex d c H5 H6 ∧ Dr H6 d c ∧ ∃ vs, H6 D = some (.lst vs) ∧ GoodA H6 vs ∧ vs.length = i) ?_ ?_ ?_
    · exact ⟨.of (same_upd hDn _), D5.own nDd nDc, [], upd_same, by simp [GoodA], rfl⟩
    · intro i H6 hi ⟨x6, D6, vs, eD, g6, hl⟩
      have hi' : i < 7 := hi
      refine ⟨rfl, yes_if ?_⟩
      refine ⟨_, rfl, _, rfl, _, rfl, d, c, tv, 0 + i, mk, F, cs, rfl, D6, iT5.ex x6 D5, hmk, hT, fun v' t' H7 i7 o7 x7 D7 => ?_⟩
      have eD7 := x7.but _ _ nDd nDc eD
      refine ⟨vs, eD7, small1000 (by omega), Ex.own (x6.trans x7) hDn _, D7.own nDd nDc, vs ++ [v'], upd_same, GoodA.wr eD7 ((g6.ex x7 D6).append fun y hy => ?_), by rw [List.length_append, hl]; rfl⟩
      rw [List.mem_singleton.mp hy]
      exact ⟨t', i7, (o7.wide (by decide)).mono (by decide)⟩
    intro H6 ⟨x6, D6, vs, eD, g6, hl⟩
    have hl7 : vs.length = 7 := hl
    refine ⟨l1, D, vs1, vs, rfl, rfl, x6.but _ _ n1d n1c e5, eD, by rw [n5, hl7]; decide, fun l2 f2 => ?_⟩
    have s7 := same_upd f2 (.lst (vs1 ++ vs))
    have g7 := ((g5.ex x6 D5).append g6).same s7
    have n7 : (vs1 ++ vs).length = 11 := by rw [List.length_append, n5, hl7]
    have D7 := D6.same s7
    have iT7 := (iT5.ex x6 D5).same s7
    obtain ⟨n2d, n2c⟩ := D6.free f2
    refine ⟨_, rfl, _, rfl, l2, _, rfl, .inl (SqL.of upd_same), d, c, ((vs1 ++ vs).length : Int), rfl, D7, by omega, by omega, fun k H8 k0 k1 x8 D8 => ?_⟩
    have e8 := x8.but _ _ n2d n2c upd_same
    have g8 := g7.ex x8 D7
    have iT8 := iT7.ex x8 D7
    generalize hxs : vs1 ++ vs = xs at *
    refine ⟨_, rfl, _, rfl, k, rfl, l2, xs, rfl, SqL.of e8, fun p3 f3 => ?_⟩
    have s9 := same_upd f3 (.lst (cutV xs (some k) none))
    refine ⟨_, rfl, _, rfl, k, rfl, l2, xs, rfl, SqL.of (s9 _ _ e8), fun p4 f4 => ?_⟩
    have s10 := same_upd f4 (.lst (cutV xs none (some k)))
    have c1 := cutV_le xs (some k) none
    have c2 := cutV_le xs none (some k)
    refine ⟨p3, p4, _, _, rfl, rfl, s10 _ _ upd_same, upd_same, Nat.le_of_lt (small1000 (by omega)), fun p5 f6 => ?_⟩
    have s11 := same_upd f6 (.lst (cutV xs (some k) none ++ cutV xs none (some k)))
    have s8 := (s9.trans s10).trans s11
    have g11 := ((g8.cut (some k) none).append (g8.cut none (some k))).same s8
    have D11 := D8.same s8
    have iT11 := iT8.same s8
    have n11 : (cutV xs (some k) none ++ cutV xs none (some k)).length ≤ 22 := by rw [List.length_append]; omega
    obtain ⟨n5d, n5c⟩ := ((D8.same s9).same s10).free f6
    generalize hys : cutV xs (some k) none ++ cutV xs none (some k) = ys at *
    refine ⟨fun σ H' => ∃ (l : Addr) (zs : List V), σ = [some (.ref a), some (.ref d), some tv, some v, some (.int k), some (.ref l), none, none, none] ∧ H' l = some (.lst zs) ∧ GoodA H' zs ∧ zs.length ≤ 22 ∧ Is H' tv (tabPV mk F cs) ∧ Dr H' d c, ?_, ?_⟩
    · refine ⟨_, rfl, d, c, 2, rfl, D11, by omega, by omega, fun z H12 _ _ x12 D12 => ⟨rfl, _, rfl, ?_⟩⟩
      have e12 := x12.but _ _ n5d n5c upd_same
      have g12 := g11.ex x12 D11
      have iT12 := iT11.ex x12 D11
      refine ite2 (fun _ => ?_) (fun _ => ?_)
      · refine ⟨_, rfl, p5, ys, rfl, SqL.of e12, fun p6 f7 => ?_⟩
        have s13 := same_upd f7 (.lst ys.reverse)
        exact ⟨p6, ys.reverse, rfl, upd_same, g12.rev.same s13, by rw [List.length_reverse]; exact n11, iT12.same s13, D12.same s13⟩
      · exact ⟨p5, ys, rfl, e12, g12, n11, iT12, D12⟩
    rintro σ Ha ⟨l, zs, rfl, eA, gA, nA, iTA, DA⟩
    refine ⟨_, rfl, _, rfl, 2, rfl, l, zs, rfl, SqL.of eA, fun p7 f7 => ?_⟩
    have s14 := same_upd f7 (.lst (cutV zs none (some 2)))
    have c3 := cutV_le zs none (some 2)
    refine ⟨l, p7, zs, _, rfl, rfl, s14 _ _ eA, upd_same, Nat.le_of_lt (small1000 (by omega)), fun p8 f8 => ⟨p8, rfl, ⟨_, SqL.of upd_same⟩, ?_⟩⟩
    have s15 := same_upd f8 (.lst (zs ++ cutV zs none (some 2)))
    have sAB := s14.trans s15
    have gB := (gA.append (gA.cut none (some 2))).same sAB
    have DB := DA.same sAB
    have iTB := iTA.same sAB
    have eB : upd (upd Ha p7 (.lst (cutV zs none (some 2)))) p8 (.lst (zs ++ cutV zs none (some 2))) p8 = _ := upd_same
    generalize upd (upd Ha p7 (.lst (cutV zs none (some 2)))) p8 (.lst (zs ++ cutV zs none (some 2))) = Hb at gB DB iTB eB ⊢
    generalize zs ++ cutV zs none (some 2) = us at gB eB ⊢
    refine for_list (K := K) (a := p8) (xs := us) (fun i σ H' => ∃ (y3 y6 : Option V), σ = [some (.ref a), some (.ref d), some tv, y3, some (.int k), some (.ref l), y6, none, none] ∧ Same Hb H') ?_ ?_ ?_ ?_
    · exact ⟨_, _, rfl, .refl _⟩
    · exact fun i σ H' _ ⟨_, _, _, s⟩ => SqL.of (s _ _ eB)
    · rintro i x σ H13 hx ⟨y3, y6, rfl, s13⟩
      obtain ⟨t', it, ot⟩ := (gB.same s13) x (List.mem_of_getElem? hx)
      refine ⟨_, rfl, x, t', rfl, it, ot, fun H14 s14 => ?_⟩
      refine ⟨_, rfl, x, t', rfl, it.same s14, ot, fun H15 s15 => ⟨_, rfl, isT t', lawT t', rfl, ?_⟩⟩
      have eq : (isT t' == lawT t') = true := by rw [table_eq]; simp
      rw [eq]
      refine ⟨_, rfl, iteF ?_⟩
      refine ⟨_, rfl, x, t', rfl, (it.same s14).same s15, ot, fun H16 s16 => ⟨_, rfl, isT t', lawT t', rfl, ?_⟩⟩
      rw [eq]
      exact ⟨_, rfl, iteF ⟨_, _, rfl, ((s13.trans s14).trans s15).trans s16⟩⟩
    · rintro σ H13 ⟨y3, y6, rfl, s13⟩
      have DC := DB.same s13
      have iTC := iTB.same s13
      refine ⟨3, rfl, by decide, by decide, ?_⟩
      refine for_range (n := 3) (fun i σ H' => ∃ (y4 y7 : Option V), σ = [some (.ref a), some (.ref d), some tv, y3, y4, some (.ref l), y6, y7, none] ∧ Is H' tv (tabPV mk F cs) ∧ Dr H' d c) ?_ ?_ ?_
      · exact ⟨_, _, rfl, iTC, DC⟩
      · rintro i σ H14 hi ⟨y4, y7, rfl, iT14, D14⟩
        refine ⟨_, rfl, _, rfl, d, c, tv, mk, F, cs, rfl, D14, iT14, hmk, hT, fun x t' H15 i15 o15 x15 D15 => ?_⟩
        have ok15 : Ok 8 t' := o15.wide (by decide)
        refine ⟨_, rfl, x, t', 8, rfl, i15, ok15, _, rfl, x, t', 8, rfl, i15, ok15, fun H16 s16 => ⟨wordB t', wordB t', rfl, ?_⟩⟩
        have eq : (wordB t' == wordB t') = true := by simp
        rw [eq]
        exact ⟨_, rfl, iteF ⟨_, _, rfl, (iT14.ex x15 D14).same s16, D15.same s16⟩⟩
      · rintro σ H14 _
        exact q H14
theorem all_form (T : Txt K mg) : ∀ n, FnOk P w K mg base CX0 (n + 1) T.a_has_form T.d_has_form ["parts_by_word", "value", "may_have_names", "kept"] (spForm T.c_Kept n)
  | 0 => no_left fun vs H Q E ⟨_, _, _, t, _, _, _, _, _, _, _, _, h, _⟩ => by have := dep_pos t; omega
  | n + 1 => ok_has_form T (all_form T n) (ok_Kept_pair_of T) (ok_Kept_keep T)
theorem all_deep (T : Txt K mg) : ∀ n, FnOk P w K mg base CX0 (n + 1) T.a_is_deeper T.d_is_deeper ["term", "most"] (spDeep n)
  | 0 => no_left fun vs H Q E ⟨_, _, _, _, h, _⟩ => by omega
  | n + 1 => ok_is_deeper T (all_deep T n)
theorem all_ldeep (T : Txt K mg) : ∀ n, FnOk P w K mg base CX0 (n + 1) T.a_law_deep T.d_law_deep ["makers", "value"] (spLDeep n)
  | 0 => no_left fun vs H Q E ⟨_, _, _, _, _, _, _, _, h, _⟩ => h
  | n + 1 => ok_law_deep T (ok_law_is_word T) (all_ldeep T n)
theorem all_lnames (T : Txt K mg) : ∀ n, FnOk P w K mg base CX0 (n + 1) T.a_law_names T.d_law_names ["term"] (spLNames n)
  | 0 => no_left fun vs H Q E ⟨_, _, _, _, h, _⟩ => h
  | n + 1 => ok_law_names T (all_lnames T n)
theorem all_spoilt (T : Txt K mg) : ∀ n, FnOk P w K mg base CX0 (n + 1) T.a_law_spoilt T.d_law_spoilt ["state", "value", "odd"] (spSpoilt n)
  | 0 => no_left fun vs H Q E ⟨_, _, _, _, _, _, _, _, _, _, _, h, _⟩ => h
  | n + 1 => ok_law_spoilt T (ok_law_draw T) (all_spoilt T n)
end
end Kx
set_option maxHeartbeats 4000000
/-! The end: the program's top leaves the defs where the text says. -/
namespace Kx
open PySem L2
theorem all_mk {l : PySem.W.OpenLaw} {w : World} {K : PySem.W.Frag} {h : Heap} {mg : Str → Option Value} {fa f0 f1 f2 f3 f4 f5 f6 f7 f8 f9 f10 f11 f12 f13 f14 f15 f16 f17 f18 f19 f20 f21 f22 f23 f24 f25 f26 f27 f28 f29 f30 f31 f32 f33 f34 f35 f36 f37 f38 f39 f40 : Addr} (X : K.In h) (G : h.Ns mainGlobals mg) (hfa : mg "law" = some (.ref fa))
    {od0 an0 od1 an1 od2 an2 od3 an3 od4 an4 od5 an5 od6 an6 od7 an7 od8 an8 od9 an9 od10 an10 od11 an11 od12 an12 od13 an13 od14 an14 od15 an15 od16 an16 od17 an17 od18 an18 od19 an19 od20 an20 od21 an21 od22 an22 od23 an23 od24 an24 od25 an25 od26 an26 od27 an27 od28 an28 od29 an29 od30 an30 od31 an31 od32 an32 od33 an33 od34 an34 od35 an35 od36 an36 od37 an37 od38 an38 od39 an39 od40 an40 : Option Addr} {sl0 sl1 sl2 sl3 sl4 sl5 sl6 sl7 sl8 sl9 sl10 sl11 sl12 sl13 sl14 sl15 sl16 sl17 sl18 sl19 sl20 sl21 sl22 sl23 sl24 sl25 sl26 sl27 sl28 sl29 sl30 sl31 sl32 sl33 sl34 sl35 sl36 sl37 sl38 sl39 sl40 : Array (Option Value)} {oc0 kV0 dc0 pm0 cd0 ct0 oc1 kV1 dc1 pm1 cd1 ct1 oc2 kV2 dc2 pm2 cd2 ct2 oc3 kV3 dc3 pm3 cd3 ct3 oc4 kV4 dc4 pm4 cd4 ct4 oc5 kV5 dc5 pm5 cd5 ct5 oc6 kV6 dc6 pm6 cd6 ct6 oc7 kV7 dc7 pm7 cd7 ct7 oc8 kV8 dc8 pm8 cd8 ct8 oc9 kV9 dc9 pm9 cd9 ct9 oc10 kV10 dc10 pm10 cd10 ct10 oc11 kV11 dc11 pm11 cd11 ct11 oc12 kV12 dc12 pm12 cd12 ct12 oc13 kV13 dc13 pm13 cd13 ct13 oc14 kV14 dc14 pm14 cd14 ct14 oc15 kV15 dc15 pm15 cd15 ct15 oc16 kV16 dc16 pm16 cd16 ct16 oc17 kV17 dc17 pm17 cd17 ct17 oc18 kV18 dc18 pm18 cd18 ct18 oc19 kV19 dc19 pm19 cd19 ct19 oc20 kV20 dc20 pm20 cd20 ct20 oc21 kV21 dc21 pm21 cd21 ct21 oc22 kV22 dc22 pm22 cd22 ct22 oc23 kV23 dc23 pm23 cd23 ct23 oc24 kV24 dc24 pm24 cd24 ct24 oc25 kV25 dc25 pm25 cd25 ct25 oc26 kV26 dc26 pm26 cd26 ct26 oc27 kV27 dc27 pm27 cd27 ct27 oc28 kV28 dc28 pm28 cd28 ct28 oc29 kV29 dc29 pm29 cd29 ct29 oc30 kV30 dc30 pm30 cd30 ct30 oc31 kV31 dc31 pm31 cd31 ct31 oc32 kV32 dc32 pm32 cd32 ct32 oc33 kV33 dc33 pm33 cd33 ct33 oc34 kV34 dc34 pm34 cd34 ct34 oc35 kV35 dc35 pm35 cd35 ct35 oc36 kV36 dc36 pm36 cd36 ct36 oc37 kV37 dc37 pm37 cd37 ct37 oc38 kV38 dc38 pm38 cd38 ct38 oc39 kV39 dc39 pm39 cd39 ct39 oc40 kV40 dc40 pm40 cd40 ct40 : Value}
    {C0 : Addr} (aC0 : PySem.W.nsIn K mainGlobals "Kept" = some (some (.ref C0))) (pg0 : PySem.W.plainGet K C0 Str.empty = true) (hd0 : PySem.W.hasDictIn K C0 = true) (po0 : PySem.W.plainOver K C0 = true) (sa0 : PySem.W.findIn K (.ref C0) "__setattr__" = some (some (.builtin "object.__setattr__"))) (mk0 : PySem.W.makesIn K C0 = true) (kc0 : PySem.W.keepIn K (.ref C0) = true) (nx0_0 : PySem.W.findIn K (.ref C0) "rows" = some none)
    {ti0 : Tok} (gi0 : PySem.W.nsIn K mainGlobals "MOST_KEPT" = some (some (.int 32 ti0)))
    {ti1 : Tok} (gi1 : PySem.W.nsIn K mainGlobals "MOST_NAME" = some (some (.int 12 ti1)))
    {ti2 : Tok} (gi2 : PySem.W.nsIn K mainGlobals "MOST_MAKERS" = some (some (.int 5 ti2)))
    {ti3 : Tok} (gi3 : PySem.W.nsIn K mainGlobals "MOST_FAMILIES" = some (some (.int 4 ti3)))
    {ti4 : Tok} (gi4 : PySem.W.nsIn K mainGlobals "MOST_CONSTRUCTORS" = some (some (.int 16 ti4)))
    {ti5 : Tok} (gi5 : PySem.W.nsIn K mainGlobals "MOST_PARTS" = some (some (.int 3 ti5)))
    {ti6 : Tok} (gi6 : PySem.W.nsIn K mainGlobals "MOST_NAMES" = some (some (.int 4 ti6)))
    {ti7 : Tok} (gi7 : PySem.W.nsIn K mainGlobals "MOST_DEEP" = some (some (.int 4 ti7)))
    {ti8 : Tok} (gi8 : PySem.W.nsIn K mainGlobals "MOST_MAKER_PARTS" = some (some (.int 2 ti8)))
    (a0 : PySem.W.findIn K (.ref C0) "__init__" = some (some (.ref f0))) (i0 : PySem.W.isFn K (.ref f0) = true) (l0 : K.lookup f0 = some ⟨oc0, od0, .func (PySem.W.fnOf "__init__" "Kept.__init__" (defArgs s_Kept_init) (defBody s_Kept_init) (defScope s_Kept_init) .none kV0 dc0 pm0 an0 cd0 ct0), sl0⟩) (c0 : PySem.W.codeIn K cd0 "Kept.__init__" = true) (k0 : PySem.W.keepIn K (.ref f0) = true)
    (a1 : PySem.W.findIn K (.ref C0) "pair_of" = some (some (.ref f1))) (i1 : PySem.W.isFn K (.ref f1) = true) (l1 : K.lookup f1 = some ⟨oc1, od1, .func (PySem.W.fnOf "pair_of" "Kept.pair_of" (defArgs s_Kept_pair_of) (defBody s_Kept_pair_of) (defScope s_Kept_pair_of) .none kV1 dc1 pm1 an1 cd1 ct1), sl1⟩) (c1 : PySem.W.codeIn K cd1 "Kept.pair_of" = true) (k1 : PySem.W.keepIn K (.ref f1) = true)
    (a2 : PySem.W.findIn K (.ref C0) "keep" = some (some (.ref f2))) (i2 : PySem.W.isFn K (.ref f2) = true) (l2 : K.lookup f2 = some ⟨oc2, od2, .func (PySem.W.fnOf "keep" "Kept.keep" (defArgs s_Kept_keep) (defBody s_Kept_keep) (defScope s_Kept_keep) .none kV2 dc2 pm2 an2 cd2 ct2), sl2⟩) (c2 : PySem.W.codeIn K cd2 "Kept.keep" = true) (k2 : PySem.W.keepIn K (.ref f2) = true)
    (a3 : PySem.W.nsIn K mainGlobals "is_term" = some (some (.ref f3))) (l3 : K.lookup f3 = some ⟨oc3, od3, .func (PySem.W.fnOf "is_term" "is_term" (defArgs s_is_term) (defBody s_is_term) (defScope s_is_term) .none kV3 dc3 pm3 an3 cd3 ct3), sl3⟩) (c3 : PySem.W.codeIn K cd3 "is_term" = true) (k3 : PySem.W.keepIn K (.ref f3) = true)
    (a4 : PySem.W.nsIn K mainGlobals "_has_form" = some (some (.ref f4))) (l4 : K.lookup f4 = some ⟨oc4, od4, .func (PySem.W.fnOf "_has_form" "_has_form" (defArgs s_has_form) (defBody s_has_form) (defScope s_has_form) .none kV4 dc4 pm4 an4 cd4 ct4), sl4⟩) (c4 : PySem.W.codeIn K cd4 "_has_form" = true) (k4 : PySem.W.keepIn K (.ref f4) = true)
    (a5 : PySem.W.nsIn K mainGlobals "names_of" = some (some (.ref f5))) (l5 : K.lookup f5 = some ⟨oc5, od5, .func (PySem.W.fnOf "names_of" "names_of" (defArgs s_names_of) (defBody s_names_of) (defScope s_names_of) .none kV5 dc5 pm5 an5 cd5 ct5), sl5⟩) (c5 : PySem.W.codeIn K cd5 "names_of" = true) (k5 : PySem.W.keepIn K (.ref f5) = true)
    (a6 : PySem.W.nsIn K mainGlobals "is_word" = some (some (.ref f6))) (l6 : K.lookup f6 = some ⟨oc6, od6, .func (PySem.W.fnOf "is_word" "is_word" (defArgs s_is_word) (defBody s_is_word) (defScope s_is_word) .none kV6 dc6 pm6 an6 cd6 ct6), sl6⟩) (c6 : PySem.W.codeIn K cd6 "is_word" = true) (k6 : PySem.W.keepIn K (.ref f6) = true)
    (a7 : PySem.W.nsIn K mainGlobals "check_table" = some (some (.ref f7))) (l7 : K.lookup f7 = some ⟨oc7, od7, .func (PySem.W.fnOf "check_table" "check_table" (defArgs s_check_table) (defBody s_check_table) (defScope s_check_table) .none kV7 dc7 pm7 an7 cd7 ct7), sl7⟩) (c7 : PySem.W.codeIn K cd7 "check_table" = true) (k7 : PySem.W.keepIn K (.ref f7) = true)
    (a8 : PySem.W.nsIn K mainGlobals "is_table" = some (some (.ref f8))) (l8 : K.lookup f8 = some ⟨oc8, od8, .func (PySem.W.fnOf "is_table" "is_table" (defArgs s_is_table) (defBody s_is_table) (defScope s_is_table) .none kV8 dc8 pm8 an8 cd8 ct8), sl8⟩) (c8 : PySem.W.codeIn K cd8 "is_table" = true) (k8 : PySem.W.keepIn K (.ref f8) = true)
    (a9 : PySem.W.nsIn K mainGlobals "is_row" = some (some (.ref f9))) (l9 : K.lookup f9 = some ⟨oc9, od9, .func (PySem.W.fnOf "is_row" "is_row" (defArgs s_is_row) (defBody s_is_row) (defScope s_is_row) .none kV9 dc9 pm9 an9 cd9 ct9), sl9⟩) (c9 : PySem.W.codeIn K cd9 "is_row" = true) (k9 : PySem.W.keepIn K (.ref f9) = true)
    (a10 : PySem.W.nsIn K mainGlobals "is_integer" = some (some (.ref f10))) (l10 : K.lookup f10 = some ⟨oc10, od10, .func (PySem.W.fnOf "is_integer" "is_integer" (defArgs s_is_integer) (defBody s_is_integer) (defScope s_is_integer) .none kV10 dc10 pm10 an10 cd10 ct10), sl10⟩) (c10 : PySem.W.codeIn K cd10 "is_integer" = true) (k10 : PySem.W.keepIn K (.ref f10) = true)
    (a11 : PySem.W.nsIn K mainGlobals "_are_makers" = some (some (.ref f11))) (l11 : K.lookup f11 = some ⟨oc11, od11, .func (PySem.W.fnOf "_are_makers" "_are_makers" (defArgs s_are_makers) (defBody s_are_makers) (defScope s_are_makers) .none kV11 dc11 pm11 an11 cd11 ct11), sl11⟩) (c11 : PySem.W.codeIn K cd11 "_are_makers" = true) (k11 : PySem.W.keepIn K (.ref f11) = true)
    (a12 : PySem.W.nsIn K mainGlobals "_is_maker" = some (some (.ref f12))) (l12 : K.lookup f12 = some ⟨oc12, od12, .func (PySem.W.fnOf "_is_maker" "_is_maker" (defArgs s_is_maker) (defBody s_is_maker) (defScope s_is_maker) .none kV12 dc12 pm12 an12 cd12 ct12), sl12⟩) (c12 : PySem.W.codeIn K cd12 "_is_maker" = true) (k12 : PySem.W.keepIn K (.ref f12) = true)
    (a13 : PySem.W.nsIn K mainGlobals "_are_families" = some (some (.ref f13))) (l13 : K.lookup f13 = some ⟨oc13, od13, .func (PySem.W.fnOf "_are_families" "_are_families" (defArgs s_are_families) (defBody s_are_families) (defScope s_are_families) .none kV13 dc13 pm13 an13 cd13 ct13), sl13⟩) (c13 : PySem.W.codeIn K cd13 "_are_families" = true) (k13 : PySem.W.keepIn K (.ref f13) = true)
    (a14 : PySem.W.nsIn K mainGlobals "_are_constructors" = some (some (.ref f14))) (l14 : K.lookup f14 = some ⟨oc14, od14, .func (PySem.W.fnOf "_are_constructors" "_are_constructors" (defArgs s_are_constructors) (defBody s_are_constructors) (defScope s_are_constructors) .none kV14 dc14 pm14 an14 cd14 ct14), sl14⟩) (c14 : PySem.W.codeIn K cd14 "_are_constructors" = true) (k14 : PySem.W.keepIn K (.ref f14) = true)
    (a15 : PySem.W.nsIn K mainGlobals "_is_constructor" = some (some (.ref f15))) (l15 : K.lookup f15 = some ⟨oc15, od15, .func (PySem.W.fnOf "_is_constructor" "_is_constructor" (defArgs s_is_constructor) (defBody s_is_constructor) (defScope s_is_constructor) .none kV15 dc15 pm15 an15 cd15 ct15), sl15⟩) (c15 : PySem.W.codeIn K cd15 "_is_constructor" = true) (k15 : PySem.W.keepIn K (.ref f15) = true)
    (a16 : PySem.W.nsIn K mainGlobals "is_kind" = some (some (.ref f16))) (l16 : K.lookup f16 = some ⟨oc16, od16, .func (PySem.W.fnOf "is_kind" "is_kind" (defArgs s_is_kind) (defBody s_is_kind) (defScope s_is_kind) .none kV16 dc16 pm16 an16 cd16 ct16), sl16⟩) (c16 : PySem.W.codeIn K cd16 "is_kind" = true) (k16 : PySem.W.keepIn K (.ref f16) = true)
    (a17 : PySem.W.nsIn K mainGlobals "_is_deeper" = some (some (.ref f17))) (l17 : K.lookup f17 = some ⟨oc17, od17, .func (PySem.W.fnOf "_is_deeper" "_is_deeper" (defArgs s_is_deeper) (defBody s_is_deeper) (defScope s_is_deeper) .none kV17 dc17 pm17 an17 cd17 ct17), sl17⟩) (c17 : PySem.W.codeIn K cd17 "_is_deeper" = true) (k17 : PySem.W.keepIn K (.ref f17) = true)
    (a18 : PySem.W.nsIn K mainGlobals "_is_flat" = some (some (.ref f18))) (l18 : K.lookup f18 = some ⟨oc18, od18, .func (PySem.W.fnOf "_is_flat" "_is_flat" (defArgs s_is_flat) (defBody s_is_flat) (defScope s_is_flat) .none kV18 dc18 pm18 an18 cd18 ct18), sl18⟩) (c18 : PySem.W.codeIn K cd18 "_is_flat" = true) (k18 : PySem.W.keepIn K (.ref f18) = true)
    (a19 : PySem.W.nsIn K mainGlobals "_are_names_told" = some (some (.ref f19))) (l19 : K.lookup f19 = some ⟨oc19, od19, .func (PySem.W.fnOf "_are_names_told" "_are_names_told" (defArgs s_are_names_told) (defBody s_are_names_told) (defScope s_are_names_told) .none kV19 dc19 pm19 an19 cd19 ct19), sl19⟩) (c19 : PySem.W.codeIn K cd19 "_are_names_told" = true) (k19 : PySem.W.keepIn K (.ref f19) = true)
    (a20 : PySem.W.nsIn K mainGlobals "_names_in" = some (some (.ref f20))) (l20 : K.lookup f20 = some ⟨oc20, od20, .func (PySem.W.fnOf "_names_in" "_names_in" (defArgs s_names_in) (defBody s_names_in) (defScope s_names_in) .none kV20 dc20 pm20 an20 cd20 ct20), sl20⟩) (c20 : PySem.W.codeIn K cd20 "_names_in" = true) (k20 : PySem.W.keepIn K (.ref f20) = true)
    (a21 : PySem.W.nsIn K mainGlobals "words_of" = some (some (.ref f21))) (l21 : K.lookup f21 = some ⟨oc21, od21, .func (PySem.W.fnOf "words_of" "words_of" (defArgs s_words_of) (defBody s_words_of) (defScope s_words_of) .none kV21 dc21 pm21 an21 cd21 ct21), sl21⟩) (c21 : PySem.W.codeIn K cd21 "words_of" = true) (k21 : PySem.W.keepIn K (.ref f21) = true)
    (a22 : PySem.W.nsIn K mainGlobals "_law_state" = some (some (.ref f22))) (l22 : K.lookup f22 = some ⟨oc22, od22, .func (PySem.W.fnOf "_law_state" "_law_state" (defArgs s_law_state) (defBody s_law_state) (defScope s_law_state) .none kV22 dc22 pm22 an22 cd22 ct22), sl22⟩) (c22 : PySem.W.codeIn K cd22 "_law_state" = true) (k22 : PySem.W.keepIn K (.ref f22) = true)
    (a23 : PySem.W.nsIn K mainGlobals "_law_draw" = some (some (.ref f23))) (l23 : K.lookup f23 = some ⟨oc23, od23, .func (PySem.W.fnOf "_law_draw" "_law_draw" (defArgs s_law_draw) (defBody s_law_draw) (defScope s_law_draw) .none kV23 dc23 pm23 an23 cd23 ct23), sl23⟩) (c23 : PySem.W.codeIn K cd23 "_law_draw" = true) (k23 : PySem.W.keepIn K (.ref f23) = true)
    (a24 : PySem.W.nsIn K mainGlobals "_law_pick" = some (some (.ref f24))) (l24 : K.lookup f24 = some ⟨oc24, od24, .func (PySem.W.fnOf "_law_pick" "_law_pick" (defArgs s_law_pick) (defBody s_law_pick) (defScope s_law_pick) .none kV24 dc24 pm24 an24 cd24 ct24), sl24⟩) (c24 : PySem.W.codeIn K cd24 "_law_pick" = true) (k24 : PySem.W.keepIn K (.ref f24) = true)
    (a25 : PySem.W.nsIn K mainGlobals "_law_shape" = some (some (.ref f25))) (l25 : K.lookup f25 = some ⟨oc25, od25, .func (PySem.W.fnOf "_law_shape" "_law_shape" (defArgs s_law_shape) (defBody s_law_shape) (defScope s_law_shape) .none kV25 dc25 pm25 an25 cd25 ct25), sl25⟩) (c25 : PySem.W.codeIn K cd25 "_law_shape" = true) (k25 : PySem.W.keepIn K (.ref f25) = true)
    (a26 : PySem.W.nsIn K mainGlobals "_law_table" = some (some (.ref f26))) (l26 : K.lookup f26 = some ⟨oc26, od26, .func (PySem.W.fnOf "_law_table" "_law_table" (defArgs s_law_table) (defBody s_law_table) (defScope s_law_table) .none kV26 dc26 pm26 an26 cd26 ct26), sl26⟩) (c26 : PySem.W.codeIn K cd26 "_law_table" = true) (k26 : PySem.W.keepIn K (.ref f26) = true)
    (a27 : PySem.W.nsIn K mainGlobals "_law_is_word" = some (some (.ref f27))) (l27 : K.lookup f27 = some ⟨oc27, od27, .func (PySem.W.fnOf "_law_is_word" "_law_is_word" (defArgs s_law_is_word) (defBody s_law_is_word) (defScope s_law_is_word) .none kV27 dc27 pm27 an27 cd27 ct27), sl27⟩) (c27 : PySem.W.codeIn K cd27 "_law_is_word" = true) (k27 : PySem.W.keepIn K (.ref f27) = true)
    (a28 : PySem.W.nsIn K mainGlobals "_law_row" = some (some (.ref f28))) (l28 : K.lookup f28 = some ⟨oc28, od28, .func (PySem.W.fnOf "_law_row" "_law_row" (defArgs s_law_row) (defBody s_law_row) (defScope s_law_row) .none kV28 dc28 pm28 an28 cd28 ct28), sl28⟩) (c28 : PySem.W.codeIn K cd28 "_law_row" = true) (k28 : PySem.W.keepIn K (.ref f28) = true)
    (a29 : PySem.W.nsIn K mainGlobals "_law_is_makers" = some (some (.ref f29))) (l29 : K.lookup f29 = some ⟨oc29, od29, .func (PySem.W.fnOf "_law_is_makers" "_law_is_makers" (defArgs s_law_is_makers) (defBody s_law_is_makers) (defScope s_law_is_makers) .none kV29 dc29 pm29 an29 cd29 ct29), sl29⟩) (c29 : PySem.W.codeIn K cd29 "_law_is_makers" = true) (k29 : PySem.W.keepIn K (.ref f29) = true)
    (a30 : PySem.W.nsIn K mainGlobals "_law_deep" = some (some (.ref f30))) (l30 : K.lookup f30 = some ⟨oc30, od30, .func (PySem.W.fnOf "_law_deep" "_law_deep" (defArgs s_law_deep) (defBody s_law_deep) (defScope s_law_deep) .none kV30 dc30 pm30 an30 cd30 ct30), sl30⟩) (c30 : PySem.W.codeIn K cd30 "_law_deep" = true) (k30 : PySem.W.keepIn K (.ref f30) = true)
    (a31 : PySem.W.nsIn K mainGlobals "_law_names" = some (some (.ref f31))) (l31 : K.lookup f31 = some ⟨oc31, od31, .func (PySem.W.fnOf "_law_names" "_law_names" (defArgs s_law_names) (defBody s_law_names) (defScope s_law_names) .none kV31 dc31 pm31 an31 cd31 ct31), sl31⟩) (c31 : PySem.W.codeIn K cd31 "_law_names" = true) (k31 : PySem.W.keepIn K (.ref f31) = true)
    (a32 : PySem.W.nsIn K mainGlobals "_law_is_pair" = some (some (.ref f32))) (l32 : K.lookup f32 = some ⟨oc32, od32, .func (PySem.W.fnOf "_law_is_pair" "_law_is_pair" (defArgs s_law_is_pair) (defBody s_law_is_pair) (defScope s_law_is_pair) .none kV32 dc32 pm32 an32 cd32 ct32), sl32⟩) (c32 : PySem.W.codeIn K cd32 "_law_is_pair" = true) (k32 : PySem.W.keepIn K (.ref f32) = true)
    (a33 : PySem.W.nsIn K mainGlobals "_law_is_constructor" = some (some (.ref f33))) (l33 : K.lookup f33 = some ⟨oc33, od33, .func (PySem.W.fnOf "_law_is_constructor" "_law_is_constructor" (defArgs s_law_is_constructor) (defBody s_law_is_constructor) (defScope s_law_is_constructor) .none kV33 dc33 pm33 an33 cd33 ct33), sl33⟩) (c33 : PySem.W.codeIn K cd33 "_law_is_constructor" = true) (k33 : PySem.W.keepIn K (.ref f33) = true)
    (a34 : PySem.W.nsIn K mainGlobals "_law_is_table" = some (some (.ref f34))) (l34 : K.lookup f34 = some ⟨oc34, od34, .func (PySem.W.fnOf "_law_is_table" "_law_is_table" (defArgs s_law_is_table) (defBody s_law_is_table) (defScope s_law_is_table) .none kV34 dc34 pm34 an34 cd34 ct34), sl34⟩) (c34 : PySem.W.codeIn K cd34 "_law_is_table" = true) (k34 : PySem.W.keepIn K (.ref f34) = true)
    (a35 : PySem.W.nsIn K mainGlobals "_law_spoilt" = some (some (.ref f35))) (l35 : K.lookup f35 = some ⟨oc35, od35, .func (PySem.W.fnOf "_law_spoilt" "_law_spoilt" (defArgs s_law_spoilt) (defBody s_law_spoilt) (defScope s_law_spoilt) .none kV35 dc35 pm35 an35 cd35 ct35), sl35⟩) (c35 : PySem.W.codeIn K cd35 "_law_spoilt" = true) (k35 : PySem.W.keepIn K (.ref f35) = true)
    (a36 : PySem.W.nsIn K mainGlobals "_law_odd" = some (some (.ref f36))) (l36 : K.lookup f36 = some ⟨oc36, od36, .func (PySem.W.fnOf "_law_odd" "_law_odd" (defArgs s_law_odd) (defBody s_law_odd) (defScope s_law_odd) .none kV36 dc36 pm36 an36 cd36 ct36), sl36⟩) (c36 : PySem.W.codeIn K cd36 "_law_odd" = true) (k36 : PySem.W.keepIn K (.ref f36) = true)
    (a37 : PySem.W.nsIn K mainGlobals "_law_large" = some (some (.ref f37))) (l37 : K.lookup f37 = some ⟨oc37, od37, .func (PySem.W.fnOf "_law_large" "_law_large" (defArgs s_law_large) (defBody s_law_large) (defScope s_law_large) .none kV37 dc37 pm37 an37 cd37 ct37), sl37⟩) (c37 : PySem.W.codeIn K cd37 "_law_large" = true) (k37 : PySem.W.keepIn K (.ref f37) = true)
    (a38 : PySem.W.nsIn K mainGlobals "_law_same" = some (some (.ref f38))) (l38 : K.lookup f38 = some ⟨oc38, od38, .func (PySem.W.fnOf "_law_same" "_law_same" (defArgs s_law_same) (defBody s_law_same) (defScope s_law_same) .none kV38 dc38 pm38 an38 cd38 ct38), sl38⟩) (c38 : PySem.W.codeIn K cd38 "_law_same" = true) (k38 : PySem.W.keepIn K (.ref f38) = true)
    (a39 : PySem.W.nsIn K mainGlobals "_law_told" = some (some (.ref f39))) (l39 : K.lookup f39 = some ⟨oc39, od39, .func (PySem.W.fnOf "_law_told" "_law_told" (defArgs s_law_told) (defBody s_law_told) (defScope s_law_told) .none kV39 dc39 pm39 an39 cd39 ct39), sl39⟩) (c39 : PySem.W.codeIn K cd39 "_law_told" = true) (k39 : PySem.W.keepIn K (.ref f39) = true)
    (a40 : PySem.W.nsIn K mainGlobals "law" = some (some (.ref f40))) (l40 : K.lookup f40 = some ⟨oc40, od40, .func (PySem.W.fnOf "law" "law" (defArgs s_law) (defBody s_law) (defScope s_law) .none kV40 dc40 pm40 an40 cd40 ct40), sl40⟩) (c40 : PySem.W.codeIn K cd40 "law" = true) (k40 : PySem.W.keepIn K (.ref f40) = true)
    (z0 : PySem.W.nsIn K mainGlobals "reversed" = some none)
    (z1 : PySem.W.nsIn K mainGlobals "dict" = some none)
    (z2 : PySem.W.nsIn K mainGlobals "isinstance" = some none)
    (z3 : PySem.W.nsIn K mainGlobals "str" = some none)
    (z4 : PySem.W.nsIn K mainGlobals "tuple" = some none)
    (z5 : PySem.W.nsIn K mainGlobals "len" = some none)
    (z6 : PySem.W.nsIn K mainGlobals "set" = some none)
    (z7 : PySem.W.nsIn K mainGlobals "int" = some none)
    (z8 : PySem.W.nsIn K mainGlobals "bool" = some none)
    (z9 : PySem.W.nsIn K mainGlobals "list" = some none)
    (z10 : PySem.W.nsIn K mainGlobals "abs" = some none)
    (z11 : PySem.W.nsIn K mainGlobals "max" = some none)
    (z12 : PySem.W.nsIn K mainGlobals "range" = some none)
    {X0 : Addr} (xg0 : PySem.W.nsIn K mainGlobals "BadTable" = some (some (.ref X0))) (xx0 : PySem.W.excIn K X0 [.type "ValueError", .type "Exception", .type "BaseException", .type "object"] "ValueError.__new__" = true) (xk0 : PySem.W.keepIn K (.ref X0) = true) (xb0 : PySem.W.subIn K (.ref X0) (.type "BaseException") = some true) (xt0 : PySem.W.typeIn K (.ref X0) = some (.type "type")) (xi0 : PySem.W.isClsIn K X0 = true)
    (xe0 : PySem.W.findIn K (.ref X0) "__getattribute__" = some (some (.builtin "BaseException.__getattribute__"))) (xf0 : PySem.W.findIn K (.ref X0) "__getattr__" = some none) (xh0 : PySem.W.hasDictIn K X0 = true) (xa0 : PySem.W.findIn K (.ref X0) "__class__" = some (some (.builtin "object.__class__"))) (xn0 : PySem.W.specialIn K (.builtin "object.__class__") "__get__" = some (some (.builtin "getset_descriptor.__get__"))) (xs0 : PySem.W.takesIn K (.builtin "object.__class__") = some true) (xm0 : PySem.W.mroIn K X0 (.type "object") = some true)
    {X1 : Addr} (xg1 : PySem.W.nsIn K mainGlobals "KindsError" = some (some (.ref X1))) (xx1 : PySem.W.excIn K X1 [.type "ValueError", .type "Exception", .type "BaseException", .type "object"] "ValueError.__new__" = true) (xk1 : PySem.W.keepIn K (.ref X1) = true) (xb1 : PySem.W.subIn K (.ref X1) (.type "BaseException") = some true) (xt1 : PySem.W.typeIn K (.ref X1) = some (.type "type")) (xi1 : PySem.W.isClsIn K X1 = true)
    (xe1 : PySem.W.findIn K (.ref X1) "__getattribute__" = some (some (.builtin "BaseException.__getattribute__"))) (xf1 : PySem.W.findIn K (.ref X1) "__getattr__" = some none) (xh1 : PySem.W.hasDictIn K X1 = true) (xa1 : PySem.W.findIn K (.ref X1) "__class__" = some (some (.builtin "object.__class__"))) (xn1 : PySem.W.specialIn K (.builtin "object.__class__") "__get__" = some (some (.builtin "getset_descriptor.__get__"))) (xs1 : PySem.W.takesIn K (.builtin "object.__class__") = some true) (xm1 : PySem.W.mroIn K X1 (.type "object") = some true)
    (xu0 : PySem.W.subIn K (.ref X0) (.ref X0) = some true)
    (xu1 : PySem.W.subIn K (.ref X0) (.ref X1) = some true)
    : ∃ fd : FuncData, (∀ (s : Shared) (v : Value), BindsTo s fd ⟨[v], []⟩ [("script", v)]) ∧ ∀ base : Heap, K.In base → base.Ns mainGlobals mg → FnOk l.prog w K mg base CX0 40 fa fd ["script"] (spLaw K) := by
  have e := hfa.symm.trans (PySem.W.mg_of X G a40)
  cases e
  let T : Txt K mg := {
    c_Kept := C0, cl_Kept := ⟨pg0, hd0, po0, sa0⟩, mg_Kept := PySem.W.mg_of X G aC0,
    no_Kept_rows := nx0_0,
    mk_Kept := ⟨mk0, a0, i0, kc0⟩,
    t_MOST_KEPT := ti0, g_MOST_KEPT := PySem.W.mg_of X G gi0,
    t_MOST_NAME := ti1, g_MOST_NAME := PySem.W.mg_of X G gi1,
    t_MOST_MAKERS := ti2, g_MOST_MAKERS := PySem.W.mg_of X G gi2,
    t_MOST_FAMILIES := ti3, g_MOST_FAMILIES := PySem.W.mg_of X G gi3,
    t_MOST_CONSTRUCTORS := ti4, g_MOST_CONSTRUCTORS := PySem.W.mg_of X G gi4,
    t_MOST_PARTS := ti5, g_MOST_PARTS := PySem.W.mg_of X G gi5,
    t_MOST_NAMES := ti6, g_MOST_NAMES := PySem.W.mg_of X G gi6,
    t_MOST_DEEP := ti7, g_MOST_DEEP := PySem.W.mg_of X G gi7,
    t_MOST_MAKER_PARTS := ti8, g_MOST_MAKER_PARTS := PySem.W.mg_of X G gi8,
    a_Kept_init := f0, d_Kept_init := _, F_Kept_init := fun_mk (st := s_Kept_init) l0 c0 k0, b_Kept_init := (fun_mk (st := s_Kept_init) l0 c0 k0).binds (ps := ["self"]) (fun _ _ _ _ _ _ us hl => match us, hl with | [_], _ => rfl), me_Kept_init := ⟨a0, i0, k0⟩,
    a_Kept_pair_of := f1, d_Kept_pair_of := _, F_Kept_pair_of := fun_mk (st := s_Kept_pair_of) l1 c1 k1, b_Kept_pair_of := (fun_mk (st := s_Kept_pair_of) l1 c1 k1).binds (ps := ["self", "tree"]) (fun _ _ _ _ _ _ us hl => match us, hl with | [_, _], _ => rfl), me_Kept_pair_of := ⟨a1, i1, k1⟩,
    a_Kept_keep := f2, d_Kept_keep := _, F_Kept_keep := fun_mk (st := s_Kept_keep) l2 c2 k2, b_Kept_keep := (fun_mk (st := s_Kept_keep) l2 c2 k2).binds (ps := ["self", "tree", "result"]) (fun _ _ _ _ _ _ us hl => match us, hl with | [_, _, _], _ => rfl), me_Kept_keep := ⟨a2, i2, k2⟩,
    a_is_term := f3, d_is_term := _, F_is_term := fun_mk (st := s_is_term) l3 c3 k3, b_is_term := (fun_mk (st := s_is_term) l3 c3 k3).binds (ps := ["makers", "value"]) (fun _ _ _ _ _ _ us hl => match us, hl with | [_, _], _ => rfl), m_is_term := PySem.W.mg_of X G a3,
    a_has_form := f4, d_has_form := _, F_has_form := fun_mk (st := s_has_form) l4 c4 k4, b_has_form := (fun_mk (st := s_has_form) l4 c4 k4).binds (ps := ["parts_by_word", "value", "may_have_names", "kept"]) (fun _ _ _ _ _ _ us hl => match us, hl with | [_, _, _, _], _ => rfl), m_has_form := PySem.W.mg_of X G a4,
    a_names_of := f5, d_names_of := _, F_names_of := fun_mk (st := s_names_of) l5 c5 k5, b_names_of := (fun_mk (st := s_names_of) l5 c5 k5).binds (ps := ["term"]) (fun _ _ _ _ _ _ us hl => match us, hl with | [_], _ => rfl), m_names_of := PySem.W.mg_of X G a5,
    a_is_word := f6, d_is_word := _, F_is_word := fun_mk (st := s_is_word) l6 c6 k6, b_is_word := (fun_mk (st := s_is_word) l6 c6 k6).binds (ps := ["value"]) (fun _ _ _ _ _ _ us hl => match us, hl with | [_], _ => rfl), m_is_word := PySem.W.mg_of X G a6,
    a_check_table := f7, d_check_table := _, F_check_table := fun_mk (st := s_check_table) l7 c7 k7, b_check_table := (fun_mk (st := s_check_table) l7 c7 k7).binds (ps := ["value"]) (fun _ _ _ _ _ _ us hl => match us, hl with | [_], _ => rfl), m_check_table := PySem.W.mg_of X G a7,
    a_is_table := f8, d_is_table := _, F_is_table := fun_mk (st := s_is_table) l8 c8 k8, b_is_table := (fun_mk (st := s_is_table) l8 c8 k8).binds (ps := ["value"]) (fun _ _ _ _ _ _ us hl => match us, hl with | [_], _ => rfl), m_is_table := PySem.W.mg_of X G a8,
    a_is_row := f9, d_is_row := _, F_is_row := fun_mk (st := s_is_row) l9 c9 k9, b_is_row := (fun_mk (st := s_is_row) l9 c9 k9).binds (ps := ["value", "many"]) (fun _ _ _ _ _ _ us hl => match us, hl with | [_, _], _ => rfl), m_is_row := PySem.W.mg_of X G a9,
    a_is_integer := f10, d_is_integer := _, F_is_integer := fun_mk (st := s_is_integer) l10 c10 k10, b_is_integer := (fun_mk (st := s_is_integer) l10 c10 k10).binds (ps := ["value"]) (fun _ _ _ _ _ _ us hl => match us, hl with | [_], _ => rfl), m_is_integer := PySem.W.mg_of X G a10,
    a_are_makers := f11, d_are_makers := _, F_are_makers := fun_mk (st := s_are_makers) l11 c11 k11, b_are_makers := (fun_mk (st := s_are_makers) l11 c11 k11).binds (ps := ["value"]) (fun _ _ _ _ _ _ us hl => match us, hl with | [_], _ => rfl), m_are_makers := PySem.W.mg_of X G a11,
    a_is_maker := f12, d_is_maker := _, F_is_maker := fun_mk (st := s_is_maker) l12 c12 k12, b_is_maker := (fun_mk (st := s_is_maker) l12 c12 k12).binds (ps := ["value"]) (fun _ _ _ _ _ _ us hl => match us, hl with | [_], _ => rfl), m_is_maker := PySem.W.mg_of X G a12,
    a_are_families := f13, d_are_families := _, F_are_families := fun_mk (st := s_are_families) l13 c13 k13, b_are_families := (fun_mk (st := s_are_families) l13 c13 k13).binds (ps := ["value"]) (fun _ _ _ _ _ _ us hl => match us, hl with | [_], _ => rfl), m_are_families := PySem.W.mg_of X G a13,
    a_are_constructors := f14, d_are_constructors := _, F_are_constructors := fun_mk (st := s_are_constructors) l14 c14 k14, b_are_constructors := (fun_mk (st := s_are_constructors) l14 c14 k14).binds (ps := ["table"]) (fun _ _ _ _ _ _ us hl => match us, hl with | [_], _ => rfl), m_are_constructors := PySem.W.mg_of X G a14,
    a_is_constructor := f15, d_is_constructor := _, F_is_constructor := fun_mk (st := s_is_constructor) l15 c15 k15, b_is_constructor := (fun_mk (st := s_is_constructor) l15 c15 k15).binds (ps := ["table", "value"]) (fun _ _ _ _ _ _ us hl => match us, hl with | [_, _], _ => rfl), m_is_constructor := PySem.W.mg_of X G a15,
    a_is_kind := f16, d_is_kind := _, F_is_kind := fun_mk (st := s_is_kind) l16 c16 k16, b_is_kind := (fun_mk (st := s_is_kind) l16 c16 k16).binds (ps := ["table", "value"]) (fun _ _ _ _ _ _ us hl => match us, hl with | [_, _], _ => rfl), m_is_kind := PySem.W.mg_of X G a16,
    a_is_deeper := f17, d_is_deeper := _, F_is_deeper := fun_mk (st := s_is_deeper) l17 c17 k17, b_is_deeper := (fun_mk (st := s_is_deeper) l17 c17 k17).binds (ps := ["term", "most"]) (fun _ _ _ _ _ _ us hl => match us, hl with | [_, _], _ => rfl), m_is_deeper := PySem.W.mg_of X G a17,
    a_is_flat := f18, d_is_flat := _, F_is_flat := fun_mk (st := s_is_flat) l18 c18 k18, b_is_flat := (fun_mk (st := s_is_flat) l18 c18 k18).binds (ps := ["index"]) (fun _ _ _ _ _ _ us hl => match us, hl with | [_], _ => rfl), m_is_flat := PySem.W.mg_of X G a18,
    a_are_names_told := f19, d_are_names_told := _, F_are_names_told := fun_mk (st := s_are_names_told) l19 c19 k19, b_are_names_told := (fun_mk (st := s_are_names_told) l19 c19 k19).binds (ps := ["parts", "index"]) (fun _ _ _ _ _ _ us hl => match us, hl with | [_, _], _ => rfl), m_are_names_told := PySem.W.mg_of X G a19,
    a_names_in := f20, d_names_in := _, F_names_in := fun_mk (st := s_names_in) l20 c20 k20, b_names_in := (fun_mk (st := s_names_in) l20 c20 k20).binds (ps := ["kinds"]) (fun _ _ _ _ _ _ us hl => match us, hl with | [_], _ => rfl), m_names_in := PySem.W.mg_of X G a20,
    a_words_of := f21, d_words_of := _, F_words_of := fun_mk (st := s_words_of) l21 c21 k21, b_words_of := (fun_mk (st := s_words_of) l21 c21 k21).binds (ps := ["table"]) (fun _ _ _ _ _ _ us hl => match us, hl with | [_], _ => rfl), m_words_of := PySem.W.mg_of X G a21,
    a_law_state := f22, d_law_state := _, F_law_state := fun_mk (st := s_law_state) l22 c22 k22, b_law_state := (fun_mk (st := s_law_state) l22 c22 k22).binds (ps := ["script"]) (fun _ _ _ _ _ _ us hl => match us, hl with | [_], _ => rfl), m_law_state := PySem.W.mg_of X G a22,
    a_law_draw := f23, d_law_draw := _, F_law_draw := fun_mk (st := s_law_draw) l23 c23 k23, b_law_draw := (fun_mk (st := s_law_draw) l23 c23 k23).binds (ps := ["state", "many"]) (fun _ _ _ _ _ _ us hl => match us, hl with | [_, _], _ => rfl), m_law_draw := PySem.W.mg_of X G a23,
    a_law_pick := f24, d_law_pick := _, F_law_pick := fun_mk (st := s_law_pick) l24 c24 k24, b_law_pick := (fun_mk (st := s_law_pick) l24 c24 k24).binds (ps := ["state", "row"]) (fun _ _ _ _ _ _ us hl => match us, hl with | [_, _], _ => rfl), m_law_pick := PySem.W.mg_of X G a24,
    a_law_shape := f25, d_law_shape := _, F_law_shape := fun_mk (st := s_law_shape) l25 c25 k25, b_law_shape := (fun_mk (st := s_law_shape) l25 c25 k25).binds (ps := ["kind", "own", "other", "third"]) (fun _ _ _ _ _ _ us hl => match us, hl with | [_, _, _, _], _ => rfl), m_law_shape := PySem.W.mg_of X G a25,
    a_law_table := f26, d_law_table := _, F_law_table := fun_mk (st := s_law_table) l26 c26 k26, b_law_table := (fun_mk (st := s_law_table) l26 c26 k26).binds (ps := ["state"]) (fun _ _ _ _ _ _ us hl => match us, hl with | [_], _ => rfl), m_law_table := PySem.W.mg_of X G a26,
    a_law_is_word := f27, d_law_is_word := _, F_law_is_word := fun_mk (st := s_law_is_word) l27 c27 k27, b_law_is_word := (fun_mk (st := s_law_is_word) l27 c27 k27).binds (ps := ["value"]) (fun _ _ _ _ _ _ us hl => match us, hl with | [_], _ => rfl), m_law_is_word := PySem.W.mg_of X G a27,
    a_law_row := f28, d_law_row := _, F_law_row := fun_mk (st := s_law_row) l28 c28 k28, b_law_row := (fun_mk (st := s_law_row) l28 c28 k28).binds (ps := ["value", "least", "most"]) (fun _ _ _ _ _ _ us hl => match us, hl with | [_, _, _], _ => rfl), m_law_row := PySem.W.mg_of X G a28,
    a_law_is_makers := f29, d_law_is_makers := _, F_law_is_makers := fun_mk (st := s_law_is_makers) l29 c29 k29, b_law_is_makers := (fun_mk (st := s_law_is_makers) l29 c29 k29).binds (ps := ["value"]) (fun _ _ _ _ _ _ us hl => match us, hl with | [_], _ => rfl), m_law_is_makers := PySem.W.mg_of X G a29,
    a_law_deep := f30, d_law_deep := _, F_law_deep := fun_mk (st := s_law_deep) l30 c30 k30, b_law_deep := (fun_mk (st := s_law_deep) l30 c30 k30).binds (ps := ["makers", "value"]) (fun _ _ _ _ _ _ us hl => match us, hl with | [_, _], _ => rfl), m_law_deep := PySem.W.mg_of X G a30,
    a_law_names := f31, d_law_names := _, F_law_names := fun_mk (st := s_law_names) l31 c31 k31, b_law_names := (fun_mk (st := s_law_names) l31 c31 k31).binds (ps := ["term"]) (fun _ _ _ _ _ _ us hl => match us, hl with | [_], _ => rfl), m_law_names := PySem.W.mg_of X G a31,
    a_law_is_pair := f32, d_law_is_pair := _, F_law_is_pair := fun_mk (st := s_law_is_pair) l32 c32 k32, b_law_is_pair := (fun_mk (st := s_law_is_pair) l32 c32 k32).binds (ps := ["makers", "families", "value"]) (fun _ _ _ _ _ _ us hl => match us, hl with | [_, _, _], _ => rfl), m_law_is_pair := PySem.W.mg_of X G a32,
    a_law_is_constructor := f33, d_law_is_constructor := _, F_law_is_constructor := fun_mk (st := s_law_is_constructor) l33 c33 k33, b_law_is_constructor := (fun_mk (st := s_law_is_constructor) l33 c33 k33).binds (ps := ["makers", "families", "value"]) (fun _ _ _ _ _ _ us hl => match us, hl with | [_, _, _], _ => rfl), m_law_is_constructor := PySem.W.mg_of X G a33,
    a_law_is_table := f34, d_law_is_table := _, F_law_is_table := fun_mk (st := s_law_is_table) l34 c34 k34, b_law_is_table := (fun_mk (st := s_law_is_table) l34 c34 k34).binds (ps := ["value"]) (fun _ _ _ _ _ _ us hl => match us, hl with | [_], _ => rfl), m_law_is_table := PySem.W.mg_of X G a34,
    a_law_spoilt := f35, d_law_spoilt := _, F_law_spoilt := fun_mk (st := s_law_spoilt) l35 c35 k35, b_law_spoilt := (fun_mk (st := s_law_spoilt) l35 c35 k35).binds (ps := ["state", "value", "odd"]) (fun _ _ _ _ _ _ us hl => match us, hl with | [_, _, _], _ => rfl), m_law_spoilt := PySem.W.mg_of X G a35,
    a_law_odd := f36, d_law_odd := _, F_law_odd := fun_mk (st := s_law_odd) l36 c36 k36, b_law_odd := (fun_mk (st := s_law_odd) l36 c36 k36).binds (ps := ["state", "table"]) (fun _ _ _ _ _ _ us hl => match us, hl with | [_, _], _ => rfl), m_law_odd := PySem.W.mg_of X G a36,
    a_law_large := f37, d_law_large := _, F_law_large := fun_mk (st := s_law_large) l37 c37 k37, b_law_large := (fun_mk (st := s_law_large) l37 c37 k37).binds (ps := ["state", "table", "kind"]) (fun _ _ _ _ _ _ us hl => match us, hl with | [_, _, _], _ => rfl), m_law_large := PySem.W.mg_of X G a37,
    a_law_same := f38, d_law_same := _, F_law_same := fun_mk (st := s_law_same) l38 c38 k38, b_law_same := (fun_mk (st := s_law_same) l38 c38 k38).binds (ps := ["flag", "due"]) (fun _ _ _ _ _ _ us hl => match us, hl with | [_, _], _ => rfl), m_law_same := PySem.W.mg_of X G a38,
    a_law_told := f39, d_law_told := _, F_law_told := fun_mk (st := s_law_told) l39 c39 k39, b_law_told := (fun_mk (st := s_law_told) l39 c39 k39).binds (ps := ["value"]) (fun _ _ _ _ _ _ us hl => match us, hl with | [_], _ => rfl), m_law_told := PySem.W.mg_of X G a39,
    a_law := fa, d_law := _, F_law := fun_mk (st := s_law) l40 c40 k40, b_law := (fun_mk (st := s_law) l40 c40 k40).binds (ps := ["script"]) (fun _ _ _ _ _ _ us hl => match us, hl with | [_], _ => rfl), m_law := PySem.W.mg_of X G a40,
    c_BadTable := X0, g_BadTable := PySem.W.mg_of X G xg0, x_BadTable := xx0, kp_BadTable := xk0, b_BadTable := xb0, t_BadTable := xt0, i_BadTable := xi0, ec_BadTable := ⟨xe0, xf0, xb0, xh0, xa0, xn0, xs0, xm0⟩,
    c_KindsError := X1, g_KindsError := PySem.W.mg_of X G xg1, x_KindsError := xx1, kp_KindsError := xk1, b_KindsError := xb1, t_KindsError := xt1, i_KindsError := xi1, ec_KindsError := ⟨xe1, xf1, xb1, xh1, xa1, xn1, xs1, xm1⟩,
    su_BadTable_BadTable := xu0,
    su_BadTable_KindsError := xu1,
    z_reversed := PySem.W.mg_none_of X G z0,
    z_dict := PySem.W.mg_none_of X G z1,
    z_isinstance := PySem.W.mg_none_of X G z2,
    z_str := PySem.W.mg_none_of X G z3,
    z_tuple := PySem.W.mg_none_of X G z4,
    z_len := PySem.W.mg_none_of X G z5,
    z_set := PySem.W.mg_none_of X G z6,
    z_int := PySem.W.mg_none_of X G z7,
    z_bool := PySem.W.mg_none_of X G z8,
    z_list := PySem.W.mg_none_of X G z9,
    z_abs := PySem.W.mg_none_of X G z10,
    z_max := PySem.W.mg_none_of X G z11,
    z_range := PySem.W.mg_none_of X G z12 }
  refine ⟨PySem.W.fnOf "law" "law" (defArgs s_law) (defBody s_law) (defScope s_law) .none kV40 dc40 pm40 an40 cd40 ct40, fun _ _ => .of_eq rfl, fun base _ _ => ?_⟩
  have d1 := ok_law_draw (P := l.prog) (w := w) (base := base) T
  have pk := ok_law_pick T d1
  have wd := ok_is_word (P := l.prog) (w := w) (base := base) T
  have lw := ok_law_is_word (P := l.prog) (w := w) (base := base) T
  have lr := ok_law_row (P := l.prog) (w := w) (base := base) T
  have row := ok_is_row (P := l.prog) (w := w) (base := base) T
  have nm := ok_names_of (n := 100) (P := l.prog) (w := w) (base := base) T
  have term := ok_is_term T (FnOk.mono (all_form (P := l.prog) (w := w) (base := base) T 30) (by decide)) (ok_Kept_init T)
  have kind := ok_is_kind T row term (all_deep T 5) nm wd
  have con := ok_is_constructor T row wd kind (ok_is_flat T) (ok_are_names_told T (ok_names_in T nm) nm)
  have tab := ok_is_table T row (ok_are_makers T (ok_is_maker T row wd (ok_is_integer T))) (ok_are_families T wd) (ok_are_constructors T con) (ok_words_of T)
  have ltab := ok_law_is_table T lr (ok_law_is_makers T lr lw) lw (ok_law_is_constructor T lr lw (ok_law_is_pair T lr (all_ldeep T 29)) (all_lnames T 4))
  have spl := FnOk.up (n := 24) fun k hk => FnOk.mono (all_spoilt (P := l.prog) (w := w) (base := base) T k) (show k + 1 ≤ 26 by omega)
  exact ok_law T (ok_law_state T) (ok_law_table T d1 pk (ok_law_shape T)) d1 (ok_law_odd T pk) spl (ok_law_large T d1) ltab tab (ok_law_told T (ok_check_table T tab)) (ok_law_same T) wd lw
theorem law_walk {l : PySem.W.OpenLaw} {q : Program} {loose : List Str} {XP : (Str → Option Value) → Heap → Prop} {YP : World → Heap → Prop} {r : DefRec} {K : Params → PySem.W.Frag}
    (h63 : l.most = some 63) (hno : r.params.defaults = []) (hK : ∀ (w : World) (h : Heap), YP w h → (K w.params).In h)
    (ok : ∀ (w : World) (mg : Str → Option Value) (fa : Addr) (h : Heap), (K w.params).In h → h.Ns mainGlobals mg → mg r.name = some (.ref fa) →
      ∃ fd : FuncData, (∀ (s : Shared) (u : Value), BindsTo s fd ⟨[u], []⟩ [("script", u)]) ∧
        ∀ base : Heap, (K w.params).In base → base.Ns mainGlobals mg → FnOk l.prog w (K w.params) mg base CX0 40 fa fd ["script"] (spLaw (K w.params))) :
    PySem.W.WalkO q loose XP YP l.row.toRowW r [] (fun f vs => PySem.call f vs) :=
  L2.walk_of (n := 63) (k := 40) (x := "script") (CX := fun _ => CX0) (sp := fun w => spLaw (K w.params)) h63 (by decide) hno ⟨rfl, by decide, by decide⟩ hK ok
    (fun _ _ a ns few _ seq => ⟨a, ns, rfl, seq, few, fun _ => rfl⟩) fun _ _ _ _ _ z => z
end Kx
open PySem PySem.W PyProof.Rows
set_option maxRecDepth 100000 in
set_option maxHeartbeats 0 in
theorem PySem.Challenge.cw_exactkinds_k09_whole_tables_that_are_non_holds : PySem.Challenge.rw_exactkinds_k09_whole_tables_that_are_non.Holds := by
  w_on; o_law; k_head; (case hw => w_witness2)
  k_fill
  refine Kx.law_walk (l := PySem.Challenge.rw_exactkinds_k09_whole_tables_that_are_non) rfl rfl (fun _ _ Y => PySem.W.kIn_of Y) ?walked
  case walked =>
    intro w mg fa h inK names hmg
    refine' Kx.all_mk inK names hmg ?aC0 ?pg0 ?hd0 ?po0 ?sa0 ?mk0 ?kc0 ?nx0_0 ?gi0 ?gi1 ?gi2 ?gi3 ?gi4 ?gi5 ?gi6 ?gi7 ?gi8 ?a0 ?i0 ?l0 ?c0 ?k0 ?a1 ?i1 ?l1 ?c1 ?k1 ?a2 ?i2 ?l2 ?c2 ?k2 ?a3 ?l3 ?c3 ?k3 ?a4 ?l4 ?c4 ?k4 ?a5 ?l5 ?c5 ?k5 ?a6 ?l6 ?c6 ?k6 ?a7 ?l7 ?c7 ?k7 ?a8 ?l8 ?c8 ?k8 ?a9 ?l9 ?c9 ?k9 ?a10 ?l10 ?c10 ?k10 ?a11 ?l11 ?c11 ?k11 ?a12 ?l12 ?c12 ?k12 ?a13 ?l13 ?c13 ?k13 ?a14 ?l14 ?c14 ?k14 ?a15 ?l15 ?c15 ?k15 ?a16 ?l16 ?c16 ?k16 ?a17 ?l17 ?c17 ?k17 ?a18 ?l18 ?c18 ?k18 ?a19 ?l19 ?c19 ?k19 ?a20 ?l20 ?c20 ?k20 ?a21 ?l21 ?c21 ?k21 ?a22 ?l22 ?c22 ?k22 ?a23 ?l23 ?c23 ?k23 ?a24 ?l24 ?c24 ?k24 ?a25 ?l25 ?c25 ?k25 ?a26 ?l26 ?c26 ?k26 ?a27 ?l27 ?c27 ?k27 ?a28 ?l28 ?c28 ?k28 ?a29 ?l29 ?c29 ?k29 ?a30 ?l30 ?c30 ?k30 ?a31 ?l31 ?c31 ?k31 ?a32 ?l32 ?c32 ?k32 ?a33 ?l33 ?c33 ?k33 ?a34 ?l34 ?c34 ?k34 ?a35 ?l35 ?c35 ?k35 ?a36 ?l36 ?c36 ?k36 ?a37 ?l37 ?c37 ?k37 ?a38 ?l38 ?c38 ?k38 ?a39 ?l39 ?c39 ?k39 ?a40 ?l40 ?c40 ?k40 ?z0 ?z1 ?z2 ?z3 ?z4 ?z5 ?z6 ?z7 ?z8 ?z9 ?z10 ?z11 ?z12 ?xg0 ?xx0 ?xk0 ?xb0 ?xt0 ?xi0 ?xe0 ?xf0 ?xh0 ?xa0 ?xn0 ?xs0 ?xm0 ?xg1 ?xx1 ?xk1 ?xb1 ?xt1 ?xi1 ?xe1 ?xf1 ?xh1 ?xa1 ?xn1 ?xs1 ?xm1 ?xu0 ?xu1
    (case aC0 => k_is)
    (case pg0 => k_is)
    (case hd0 => k_is)
    (case po0 => k_is)
    (case sa0 => k_is)
    (case mk0 => k_is)
    (case kc0 => k_is)
    (case nx0_0 => k_is)
    (case gi0 => k_is)
    (case gi1 => k_is)
    (case gi2 => k_is)
    (case gi3 => k_is)
    (case gi4 => k_is)
    (case gi5 => k_is)
    (case gi6 => k_is)
    (case gi7 => k_is)
    (case gi8 => k_is)
    (case a0 => k_is)
    (case i0 => k_is)
    (case l0 => k_is)
    (case c0 => k_is)
    (case k0 => k_is)
    (case a1 => k_is)
    (case i1 => k_is)
    (case l1 => k_is)
    (case c1 => k_is)
    (case k1 => k_is)
    (case a2 => k_is)
    (case i2 => k_is)
    (case l2 => k_is)
    (case c2 => k_is)
    (case k2 => k_is)
    (case a3 => k_is)
    (case l3 => k_is)
    (case c3 => k_is)
    (case k3 => k_is)
    (case a4 => k_is)
    (case l4 => k_is)
    (case c4 => k_is)
    (case k4 => k_is)
    (case a5 => k_is)
    (case l5 => k_is)
    (case c5 => k_is)
    (case k5 => k_is)
    (case a6 => k_is)
    (case l6 => k_is)
    (case c6 => k_is)
    (case k6 => k_is)
    (case a7 => k_is)
    (case l7 => k_is)
    (case c7 => k_is)
    (case k7 => k_is)
    (case a8 => k_is)
    (case l8 => k_is)
    (case c8 => k_is)
    (case k8 => k_is)
    (case a9 => k_is)
    (case l9 => k_is)
    (case c9 => k_is)
    (case k9 => k_is)
    (case a10 => k_is)
    (case l10 => k_is)
    (case c10 => k_is)
    (case k10 => k_is)
    (case a11 => k_is)
    (case l11 => k_is)
    (case c11 => k_is)
    (case k11 => k_is)
    (case a12 => k_is)
    (case l12 => k_is)
    (case c12 => k_is)
    (case k12 => k_is)
    (case a13 => k_is)
    (case l13 => k_is)
    (case c13 => k_is)
    (case k13 => k_is)
    (case a14 => k_is)
    (case l14 => k_is)
    (case c14 => k_is)
    (case k14 => k_is)
    (case a15 => k_is)
    (case l15 => k_is)
    (case c15 => k_is)
    (case k15 => k_is)
    (case a16 => k_is)
    (case l16 => k_is)
    (case c16 => k_is)
    (case k16 => k_is)
    (case a17 => k_is)
    (case l17 => k_is)
    (case c17 => k_is)
    (case k17 => k_is)
    (case a18 => k_is)
    (case l18 => k_is)
    (case c18 => k_is)
    (case k18 => k_is)
    (case a19 => k_is)
    (case l19 => k_is)
    (case c19 => k_is)
    (case k19 => k_is)
    (case a20 => k_is)
    (case l20 => k_is)
    (case c20 => k_is)
    (case k20 => k_is)
    (case a21 => k_is)
    (case l21 => k_is)
    (case c21 => k_is)
    (case k21 => k_is)
    (case a22 => k_is)
    (case l22 => k_is)
    (case c22 => k_is)
    (case k22 => k_is)
    (case a23 => k_is)
    (case l23 => k_is)
    (case c23 => k_is)
    (case k23 => k_is)
    (case a24 => k_is)
    (case l24 => k_is)
    (case c24 => k_is)
    (case k24 => k_is)
    (case a25 => k_is)
    (case l25 => k_is)
    (case c25 => k_is)
    (case k25 => k_is)
    (case a26 => k_is)
    (case l26 => k_is)
    (case c26 => k_is)
    (case k26 => k_is)
    (case a27 => k_is)
    (case l27 => k_is)
    (case c27 => k_is)
    (case k27 => k_is)
    (case a28 => k_is)
    (case l28 => k_is)
    (case c28 => k_is)
    (case k28 => k_is)
    (case a29 => k_is)
    (case l29 => k_is)
    (case c29 => k_is)
    (case k29 => k_is)
    (case a30 => k_is)
    (case l30 => k_is)
    (case c30 => k_is)
    (case k30 => k_is)
    (case a31 => k_is)
    (case l31 => k_is)
    (case c31 => k_is)
    (case k31 => k_is)
    (case a32 => k_is)
    (case l32 => k_is)
    (case c32 => k_is)
    (case k32 => k_is)
    (case a33 => k_is)
    (case l33 => k_is)
    (case c33 => k_is)
    (case k33 => k_is)
    (case a34 => k_is)
    (case l34 => k_is)
    (case c34 => k_is)
    (case k34 => k_is)
    (case a35 => k_is)
    (case l35 => k_is)
    (case c35 => k_is)
    (case k35 => k_is)
    (case a36 => k_is)
    (case l36 => k_is)
    (case c36 => k_is)
    (case k36 => k_is)
    (case a37 => k_is)
    (case l37 => k_is)
    (case c37 => k_is)
    (case k37 => k_is)
    (case a38 => k_is)
    (case l38 => k_is)
    (case c38 => k_is)
    (case k38 => k_is)
    (case a39 => k_is)
    (case l39 => k_is)
    (case c39 => k_is)
    (case k39 => k_is)
    (case a40 => k_is)
    (case l40 => k_is)
    (case c40 => k_is)
    (case k40 => k_is)
    (case z0 => k_is)
    (case z1 => k_is)
    (case z2 => k_is)
    (case z3 => k_is)
    (case z4 => k_is)
    (case z5 => k_is)
    (case z6 => k_is)
    (case z7 => k_is)
    (case z8 => k_is)
    (case z9 => k_is)
    (case z10 => k_is)
    (case z11 => k_is)
    (case z12 => k_is)
    (case xg0 => k_is)
    (case xx0 => k_exc)
    (case xk0 => k_is)
    (case xb0 => k_is)
    (case xt0 => k_is)
    (case xi0 => k_is)
    (case xe0 => k_is)
    (case xf0 => k_is)
    (case xh0 => k_is)
    (case xa0 => k_is)
    (case xn0 => k_is)
    (case xs0 => k_is)
    (case xm0 => k_is)
    (case xg1 => k_is)
    (case xx1 => k_exc)
    (case xk1 => k_is)
    (case xb1 => k_is)
    (case xt1 => k_is)
    (case xi1 => k_is)
    (case xe1 => k_is)
    (case xf1 => k_is)
    (case xh1 => k_is)
    (case xa1 => k_is)
    (case xn1 => k_is)
    (case xs1 => k_is)
    (case xm1 => k_is)
    (case xu0 => first | rfl | k_is)
    (case xu1 => first | rfl | k_is)

