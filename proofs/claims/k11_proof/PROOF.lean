import PyProof.Rows.All
import Wide.All
import OpenK.AllK
import Wide.FinOn
import HandS.ForMost
import HandS.IsInst
import HandS.Conv
import HandS.TupAny
import HandS.Evl
import HandS.SetKeys
import HandS.Rev
import HandS.ForDict
import HandS.New
import HandS.Dict
import HandS.DictComp
import HandS.Lambda
import HandS.Nested
import HandS.EndTab
import HandS.Zip
import HandS.More
import PyProof.EqAt
import PyProof.EqKinds
import HandS.Style
import HandS.Words
import KE.KDictPairs
import KE.GoesMore
import PySem.Challenge.RW_exactkinds_k11_indices_of_raw_values
set_option Elab.async false
set_option linter.all false
set_option maxRecDepth 100000
namespace Kx
open PySem PySem.Spec PyProof.Rows L2
def top (i : Nat) : Stmt := PySem.Challenge.pw_exactkinds_k11_indices_of_raw_values.main.body.getD i (.Pass ⟨0, 0, 0, 0⟩)
abbrev s_Kept_init : Stmt := inClass (top 2) 0
abbrev s_Kept_pair_of : Stmt := inClass (top 2) 1
abbrev s_Kept_keep : Stmt := inClass (top 2) 2
abbrev s_folded : Stmt := top 3
abbrev s_folded_ : Stmt := top 4
abbrev s_is_tree : Stmt := top 6
abbrev s_has_form : Stmt := top 7
abbrev s_put : Stmt := top 8
abbrev s_fitted : Stmt := top 9
abbrev s_fits : Stmt := top 10
abbrev s_is_raw : Stmt := top 12
abbrev s_counts : Stmt := top 13
abbrev s_index_of : Stmt := top 14
abbrev s_made_kind : Stmt := top 15
abbrev s_trees_for : Stmt := top 16
abbrev s_size : Stmt := top 17
abbrev s_demanded : Stmt := top 18
abbrev s_law_state : Stmt := top 20
abbrev s_law_draw : Stmt := top 21
abbrev s_law_pick : Stmt := top 22
abbrev s_law_shape : Stmt := top 23
abbrev s_law_table : Stmt := top 24
abbrev s_law_heads : Stmt := top 25
abbrev s_law_fit : Stmt := top 26
abbrev s_law_put : Stmt := top 27
abbrev s_law_index : Stmt := top 28
abbrev s_law_grown : Stmt := top 29
abbrev s_law_values : Stmt := top 30
abbrev s_law_size : Stmt := top 31
abbrev s_law_broken : Stmt := top 32
abbrev s_law : Stmt := top 33
theorem sc_Kept_init : FnScope ["self"] ["self"] (defScope s_Kept_init) := ⟨rfl, rfl, rfl, by decide +kernel, rfl, by decide +kernel, by decide +kernel⟩
theorem sc_Kept_pair_of : FnScope ["self", "tree", "pair"] ["self", "tree"] (defScope s_Kept_pair_of) := ⟨rfl, rfl, rfl, by decide +kernel, rfl, by decide +kernel, by decide +kernel⟩
theorem sc_Kept_keep : FnScope ["self", "tree", "result", "row"] ["self", "tree", "result"] (defScope s_Kept_keep) := ⟨rfl, rfl, rfl, by decide +kernel, rfl, by decide +kernel, by decide +kernel⟩
theorem sc_folded : FnScope ["tree", "reckon"] ["tree", "reckon"] (defScope s_folded) := ⟨rfl, rfl, rfl, by decide +kernel, rfl, by decide +kernel, by decide +kernel⟩
theorem sc_folded_ : FnScope ["tree", "reckon", "kept", "pair", "results", "part", "result"] ["tree", "reckon", "kept"] (defScope s_folded_) := ⟨rfl, rfl, rfl, by decide +kernel, rfl, by decide +kernel, by decide +kernel⟩
theorem sc_is_tree : FnScope ["makers", "value"] ["makers", "value"] (defScope s_is_tree) := ⟨rfl, rfl, rfl, by decide +kernel, rfl, by decide +kernel, by decide +kernel⟩
theorem sc_has_form : FnScope ["parts_by_word", "value", "may_have_names", "kept", "part"] ["parts_by_word", "value", "may_have_names", "kept"] (defScope s_has_form) := ⟨rfl, rfl, rfl, by decide +kernel, rfl, by decide +kernel, by decide +kernel⟩
theorem sc_put : FnScope ["term", "assignment", "items", "part"] ["term", "assignment"] (defScope s_put) := ⟨rfl, rfl, rfl, by decide +kernel, rfl, by decide +kernel, by decide +kernel⟩
theorem sc_fitted : FnScope ["patterns", "terms", "found", "pattern", "term"] ["patterns", "terms"] (defScope s_fitted) := ⟨rfl, rfl, rfl, by decide +kernel, rfl, by decide +kernel, by decide +kernel⟩
theorem sc_fits : FnScope ["pattern", "term", "found", "inner", "part"] ["pattern", "term", "found"] (defScope s_fits) := ⟨rfl, rfl, rfl, by decide +kernel, rfl, by decide +kernel, by decide +kernel⟩
theorem sc_is_raw : FnScope ["table", "value"] ["table", "value"] (defScope s_is_raw) := ⟨rfl, rfl, rfl, by decide +kernel, rfl, by decide +kernel, by decide +kernel⟩
theorem sc_counts : FnScope ["table", "word", "parts", "_"] ["table"] (defScope s_counts) := ⟨rfl, rfl, rfl, by decide +kernel, rfl, by decide +kernel, by decide +kernel⟩
theorem sc_index_of : FnScope ["table", "value", "constructors", "constructor", "word", "kinds"] ["table", "value"] (defScope s_index_of) := ⟨rfl, rfl, rfl, by decide +kernel, rfl, by decide +kernel, by decide +kernel⟩
theorem sc_made_kind : FnScope ["constructor", "kinds", "_", "parts", "family", "index", "trees"] ["constructor", "kinds"] (defScope s_made_kind) := ⟨rfl, rfl, rfl, by decide +kernel, rfl, by decide +kernel, by decide +kernel⟩
theorem sc_trees_for : FnScope ["asked", "kinds", "family", "_", "kind", "term", "tree"] ["asked", "kinds"] (defScope s_trees_for) := ⟨rfl, rfl, rfl, by decide +kernel, rfl, by decide +kernel, by decide +kernel⟩
theorem sc_size : FnScope ["value", "word", "sizes"] ["value"] (defScope s_size) := ⟨rfl, rfl, rfl, by decide +kernel, rfl, by decide +kernel, by decide +kernel⟩
theorem sc_demanded : FnScope ["table", "function", "values", "value"] ["table", "function", "values"] (defScope s_demanded) := ⟨rfl, rfl, rfl, by decide +kernel, rfl, by decide +kernel, by decide +kernel⟩
theorem sc_law_state : FnScope ["script", "seed", "cell"] ["script"] (defScope s_law_state) := ⟨rfl, rfl, rfl, by decide +kernel, rfl, by decide +kernel, by decide +kernel⟩
theorem sc_law_draw : FnScope ["state", "many", "cells", "value", "mixed"] ["state", "many"] (defScope s_law_draw) := ⟨rfl, rfl, rfl, by decide +kernel, rfl, by decide +kernel, by decide +kernel⟩
theorem sc_law_pick : FnScope ["state", "row"] ["state", "row"] (defScope s_law_pick) := ⟨rfl, rfl, rfl, by decide +kernel, rfl, by decide +kernel, by decide +kernel⟩
theorem sc_law_shape : FnScope ["kind", "own", "other", "third", "zero", "next_n", "grown", "pair"] ["kind", "own", "other", "third"] (defScope s_law_shape) := ⟨rfl, rfl, rfl, by decide +kernel, rfl, by decide +kernel, by decide +kernel⟩
theorem sc_law_table : FnScope ["state", "makers", "families", "constructors", "own", "kind", "parts", "index"] ["state"] (defScope s_law_table) := ⟨rfl, rfl, rfl, by decide +kernel, rfl, by decide +kernel, by decide +kernel⟩
theorem sc_law_heads : FnScope ["state", "table", "heads", "k", "one", "other", "made", "kind", "params", "family", "index"] ["state", "table"] (defScope s_law_heads) := ⟨rfl, rfl, rfl, by decide +kernel, rfl, by decide +kernel, by decide +kernel⟩
theorem sc_law_fit : FnScope ["patterns", "trees", "found", "pairs", "pattern", "tree", "k"] ["patterns", "trees"] (defScope s_law_fit) := ⟨rfl, rfl, rfl, by decide +kernel, rfl, by decide +kernel, by decide +kernel⟩
theorem sc_law_put : FnScope ["term", "trees", "part"] ["term", "trees"] (defScope s_law_put) := ⟨rfl, rfl, rfl, by decide +kernel, rfl, by decide +kernel, by decide +kernel⟩
theorem sc_law_index : FnScope ["table", "value", "row", "found", "trees", "one", "part", "pair"] ["table", "value"] (defScope s_law_index) := ⟨rfl, rfl, rfl, by decide +kernel, rfl, by decide +kernel, by decide +kernel⟩
theorem sc_law_grown : FnScope ["table", "known", "most", "more", "row", "rows", "family", "term", "longer", "parts", "value", "index", "one"] ["table", "known", "most"] (defScope s_law_grown) := ⟨rfl, rfl, rfl, by decide +kernel, rfl, by decide +kernel, by decide +kernel⟩
theorem sc_law_values : FnScope ["table", "rounds", "most", "known", "k"] ["table", "rounds", "most"] (defScope s_law_values) := ⟨rfl, rfl, rfl, by decide +kernel, rfl, by decide +kernel, by decide +kernel⟩
theorem sc_law_size : FnScope ["value", "part"] ["value"] (defScope s_law_size) := ⟨rfl, rfl, rfl, by decide +kernel, rfl, by decide +kernel, by decide +kernel⟩
theorem sc_law_broken : FnScope ["state", "value", "kind", "at"] ["state", "value"] (defScope s_law_broken) := ⟨rfl, rfl, rfl, by decide +kernel, rfl, by decide +kernel, by decide +kernel⟩
theorem sc_law : FnScope ["script", "state", "table", "known", "turn", "row", "value", "asked", "other", "due", "flag", "head", "values", "found", "one", "part", "param", "pair"] ["script"] (defScope s_law) := ⟨rfl, rfl, rfl, by decide +kernel, rfl, by decide +kernel, by decide +kernel⟩
structure Txt (K : PySem.W.Frag) (mg : Str → Option Value) where
  c_Kept : Addr
  cl_Kept : Cls K c_Kept
  mg_Kept : mg "Kept" = some (.ref c_Kept)
  no_Kept_rows : NoAttr K c_Kept "rows"
  t_MOST_KEPT : Tok
  g_MOST_KEPT : mg "MOST_KEPT" = some (.int 32 t_MOST_KEPT)
  a_Kept_init : Addr
  d_Kept_init : FuncData
  F_Kept_init : Fun K "__init__" "Kept.__init__" s_Kept_init a_Kept_init d_Kept_init
  b_Kept_init : Binds K d_Kept_init ["self"] []
  me_Kept_init : Meth K c_Kept "__init__" a_Kept_init
  a_Kept_pair_of : Addr
  d_Kept_pair_of : FuncData
  F_Kept_pair_of : Fun K "pair_of" "Kept.pair_of" s_Kept_pair_of a_Kept_pair_of d_Kept_pair_of
  b_Kept_pair_of : Binds K d_Kept_pair_of ["self", "tree"] []
  me_Kept_pair_of : Meth K c_Kept "pair_of" a_Kept_pair_of
  a_Kept_keep : Addr
  d_Kept_keep : FuncData
  F_Kept_keep : Fun K "keep" "Kept.keep" s_Kept_keep a_Kept_keep d_Kept_keep
  b_Kept_keep : Binds K d_Kept_keep ["self", "tree", "result"] []
  me_Kept_keep : Meth K c_Kept "keep" a_Kept_keep
  a_folded : Addr
  d_folded : FuncData
  F_folded : Fun K "folded" "folded" s_folded a_folded d_folded
  b_folded : Binds K d_folded ["tree", "reckon"] []
  m_folded : mg "folded" = some (.ref a_folded)
  a_folded_ : Addr
  d_folded_ : FuncData
  F_folded_ : Fun K "_folded" "_folded" s_folded_ a_folded_ d_folded_
  b_folded_ : Binds K d_folded_ ["tree", "reckon", "kept"] []
  m_folded_ : mg "_folded" = some (.ref a_folded_)
  a_is_tree : Addr
  d_is_tree : FuncData
  F_is_tree : Fun K "is_tree" "is_tree" s_is_tree a_is_tree d_is_tree
  b_is_tree : Binds K d_is_tree ["makers", "value"] []
  m_is_tree : mg "is_tree" = some (.ref a_is_tree)
  a_has_form : Addr
  d_has_form : FuncData
  F_has_form : Fun K "_has_form" "_has_form" s_has_form a_has_form d_has_form
  b_has_form : Binds K d_has_form ["parts_by_word", "value", "may_have_names", "kept"] []
  m_has_form : mg "_has_form" = some (.ref a_has_form)
  a_put : Addr
  d_put : FuncData
  F_put : Fun K "put" "put" s_put a_put d_put
  b_put : Binds K d_put ["term", "assignment"] []
  m_put : mg "put" = some (.ref a_put)
  a_fitted : Addr
  d_fitted : FuncData
  F_fitted : Fun K "fitted" "fitted" s_fitted a_fitted d_fitted
  b_fitted : Binds K d_fitted ["patterns", "terms"] []
  m_fitted : mg "fitted" = some (.ref a_fitted)
  a_fits : Addr
  d_fits : FuncData
  F_fits : Fun K "_fits" "_fits" s_fits a_fits d_fits
  b_fits : Binds K d_fits ["pattern", "term", "found"] []
  m_fits : mg "_fits" = some (.ref a_fits)
  a_is_raw : Addr
  d_is_raw : FuncData
  F_is_raw : Fun K "is_raw" "is_raw" s_is_raw a_is_raw d_is_raw
  b_is_raw : Binds K d_is_raw ["table", "value"] []
  m_is_raw : mg "is_raw" = some (.ref a_is_raw)
  a_counts : Addr
  d_counts : FuncData
  F_counts : Fun K "_counts" "_counts" s_counts a_counts d_counts
  b_counts : Binds K d_counts ["table"] []
  m_counts : mg "_counts" = some (.ref a_counts)
  a_index_of : Addr
  d_index_of : FuncData
  F_index_of : Fun K "index_of" "index_of" s_index_of a_index_of d_index_of
  b_index_of : Binds K d_index_of ["table", "value"] []
  m_index_of : mg "index_of" = some (.ref a_index_of)
  a_made_kind : Addr
  d_made_kind : FuncData
  F_made_kind : Fun K "made_kind" "made_kind" s_made_kind a_made_kind d_made_kind
  b_made_kind : Binds K d_made_kind ["constructor", "kinds"] []
  m_made_kind : mg "made_kind" = some (.ref a_made_kind)
  a_trees_for : Addr
  d_trees_for : FuncData
  F_trees_for : Fun K "trees_for" "trees_for" s_trees_for a_trees_for d_trees_for
  b_trees_for : Binds K d_trees_for ["asked", "kinds"] []
  m_trees_for : mg "trees_for" = some (.ref a_trees_for)
  a_size : Addr
  d_size : FuncData
  F_size : Fun K "size" "size" s_size a_size d_size
  b_size : Binds K d_size ["value"] []
  m_size : mg "size" = some (.ref a_size)
  a_demanded : Addr
  d_demanded : FuncData
  F_demanded : Fun K "demanded" "demanded" s_demanded a_demanded d_demanded
  b_demanded : Binds K d_demanded ["table", "function", "values"] []
  m_demanded : mg "demanded" = some (.ref a_demanded)
  a_law_state : Addr
  d_law_state : FuncData
  F_law_state : Fun K "_law_state" "_law_state" s_law_state a_law_state d_law_state
  b_law_state : Binds K d_law_state ["script"] []
  m_law_state : mg "_law_state" = some (.ref a_law_state)
  a_law_draw : Addr
  d_law_draw : FuncData
  F_law_draw : Fun K "_law_draw" "_law_draw" s_law_draw a_law_draw d_law_draw
  b_law_draw : Binds K d_law_draw ["state", "many"] []
  m_law_draw : mg "_law_draw" = some (.ref a_law_draw)
  a_law_pick : Addr
  d_law_pick : FuncData
  F_law_pick : Fun K "_law_pick" "_law_pick" s_law_pick a_law_pick d_law_pick
  b_law_pick : Binds K d_law_pick ["state", "row"] []
  m_law_pick : mg "_law_pick" = some (.ref a_law_pick)
  a_law_shape : Addr
  d_law_shape : FuncData
  F_law_shape : Fun K "_law_shape" "_law_shape" s_law_shape a_law_shape d_law_shape
  b_law_shape : Binds K d_law_shape ["kind", "own", "other", "third"] []
  m_law_shape : mg "_law_shape" = some (.ref a_law_shape)
  a_law_table : Addr
  d_law_table : FuncData
  F_law_table : Fun K "_law_table" "_law_table" s_law_table a_law_table d_law_table
  b_law_table : Binds K d_law_table ["state"] []
  m_law_table : mg "_law_table" = some (.ref a_law_table)
  a_law_heads : Addr
  d_law_heads : FuncData
  F_law_heads : Fun K "_law_heads" "_law_heads" s_law_heads a_law_heads d_law_heads
  b_law_heads : Binds K d_law_heads ["state", "table"] []
  m_law_heads : mg "_law_heads" = some (.ref a_law_heads)
  a_law_fit : Addr
  d_law_fit : FuncData
  F_law_fit : Fun K "_law_fit" "_law_fit" s_law_fit a_law_fit d_law_fit
  b_law_fit : Binds K d_law_fit ["patterns", "trees"] []
  m_law_fit : mg "_law_fit" = some (.ref a_law_fit)
  a_law_put : Addr
  d_law_put : FuncData
  F_law_put : Fun K "_law_put" "_law_put" s_law_put a_law_put d_law_put
  b_law_put : Binds K d_law_put ["term", "trees"] []
  m_law_put : mg "_law_put" = some (.ref a_law_put)
  a_law_index : Addr
  d_law_index : FuncData
  F_law_index : Fun K "_law_index" "_law_index" s_law_index a_law_index d_law_index
  b_law_index : Binds K d_law_index ["table", "value"] []
  m_law_index : mg "_law_index" = some (.ref a_law_index)
  a_law_grown : Addr
  d_law_grown : FuncData
  F_law_grown : Fun K "_law_grown" "_law_grown" s_law_grown a_law_grown d_law_grown
  b_law_grown : Binds K d_law_grown ["table", "known", "most"] []
  m_law_grown : mg "_law_grown" = some (.ref a_law_grown)
  a_law_values : Addr
  d_law_values : FuncData
  F_law_values : Fun K "_law_values" "_law_values" s_law_values a_law_values d_law_values
  b_law_values : Binds K d_law_values ["table", "rounds", "most"] []
  m_law_values : mg "_law_values" = some (.ref a_law_values)
  a_law_size : Addr
  d_law_size : FuncData
  F_law_size : Fun K "_law_size" "_law_size" s_law_size a_law_size d_law_size
  b_law_size : Binds K d_law_size ["value"] []
  m_law_size : mg "_law_size" = some (.ref a_law_size)
  a_law_broken : Addr
  d_law_broken : FuncData
  F_law_broken : Fun K "_law_broken" "_law_broken" s_law_broken a_law_broken d_law_broken
  b_law_broken : Binds K d_law_broken ["state", "value"] []
  m_law_broken : mg "_law_broken" = some (.ref a_law_broken)
  a_law : Addr
  d_law : FuncData
  F_law : Fun K "law" "law" s_law a_law d_law
  b_law : Binds K d_law ["script"] []
  m_law : mg "law" = some (.ref a_law)
  mk_Kept : Mk K c_Kept a_Kept_init
  z_reversed : mg "reversed" = none
  z_dict : mg "dict" = none
  z_isinstance : mg "isinstance" = none
  z_str : mg "str" = none
  z_tuple : mg "tuple" = none
  z_len : mg "len" = none
  z_zip : mg "zip" = none
  z_sum : mg "sum" = none
  z_int : mg "int" = none
  z_abs : mg "abs" = none
  z_range : mg "range" = none
  z_list : mg "list" = none
  z_max : mg "max" = none
  z_bool : mg "bool" = none
end Kx
set_option maxHeartbeats 2000000
/-! A lambda with parameters and captured names that is handed to a def. -/
namespace KLm
open PySem PySem.Spec PyProof.Rows L2 LamX NdefX
/-! ### objects that stand exactly as they are; a heap in which some are hidden, or shown again -/
def PinO (b : Addr) (o : Obj) : HO := .ext fun h => h.get? b = some o
theorem pin_own {b x : Addr} {o : Obj} : PinO b o ≠ .own x := fun z => by unfold PinO at z; cases z
theorem pin_tup {b : Addr} {o : Obj} {xs : List V} : PinO b o ≠ .tup xs := fun z => by unfold PinO at z; cases z
theorem pin_frz {b : Addr} {o o' : Obj} {u : HO} : PinO b o ≠ .frz o' u := fun z => by unfold PinO at z; cases z
theorem pin_tbl {b : Addr} {o : Obj} {ps : Array Value} : PinO b o ≠ .tbl ps := fun z => by unfold PinO at z; cases z
theorem pin_lst {b : Addr} {o : Obj} {xs : List V} : PinO b o ≠ .lst xs := fun z => by unfold PinO at z; cases z
theorem pin_dK {b : Addr} {o : Obj} {xs : List (Key × V)} : PinO b o ≠ .dK xs := fun z => by unfold PinO at z; cases z
/-- what is pinned -/
def Pinned (S : List (Addr × Obj)) (H : Hp) : Prop := ∀ p ∈ S, H p.1 = some (PinO p.1 p.2)
def hid (S : List (Addr × Obj)) (H : Hp) : Hp := fun b => if b ∈ S.map (·.1) then none else H b
def unh (S : List (Addr × Obj)) (H H1 : Hp) : Hp := fun b => if b ∈ S.map (·.1) then H b else H1 b
/-- the pinned ones shown -/
def shw (S : List (Addr × Obj)) (H : Hp) : Hp := fun b => match S.find? (fun p => p.1 == b) with
  | some p => some (PinO p.1 p.2)
  | none => H b
section
variable {P : Program} {w : World} {S : List (Addr × Obj)} {H H1 : Hp} {h h' : Heap} {b : Addr} {fs : List Addr}
theorem hid_in (hb : b ∈ S.map (·.1)) : hid S H b = none := by unfold hid; rw [if_pos hb]
theorem hid_out (hb : b ∉ S.map (·.1)) : hid S H b = H b := by unfold hid; rw [if_neg hb]
theorem unh_in (hb : b ∈ S.map (·.1)) : unh S H H1 b = H b := by unfold unh; rw [if_pos hb]
theorem unh_out (hb : b ∉ S.map (·.1)) : unh S H H1 b = H1 b := by unfold unh; rw [if_neg hb]
theorem Pinned.get (p : Pinned S H) (hb : b ∈ S.map (·.1)) : ∃ o, (b, o) ∈ S ∧ H b = some (PinO b o) := by
  obtain ⟨q, hq, rfl⟩ := List.mem_map.mp hb
  exact ⟨q.2, hq, p q hq⟩
theorem pin_at {o : Obj} (x : HOk P w H h) (e : H b = some (PinO b o)) : h.get? b = some o := (x b _ e).1
theorem hid_some {o : HO} (e : hid S H b = some o) : b ∉ S.map (·.1) ∧ H b = some o := by
  by_cases hb : b ∈ S.map (·.1)
  · rw [hid_in hb] at e; cases e
  · rw [hid_out hb] at e; exact ⟨hb, e⟩
theorem not_pinned {o : HO} (p : Pinned S H) (e : H b = some o) (n : ∀ x, o ≠ PinO b x) : b ∉ S.map (·.1) := fun hb => by
  obtain ⟨x, _, e2⟩ := p.get hb
  rw [e] at e2
  exact n x (Option.some.inj e2)
theorem hok_hid (p : Pinned S H) (x : HOk P w H h) : HOk P w (hid S H) h := fun a o e => by
  obtain ⟨ha, e⟩ := hid_some e
  refine (x a o e).stay (fun b u _ q => q) (fun b hb => ?_) (fun b xs hb => ?_)
  · rw [hid_out (not_pinned p hb fun x z => pin_own z.symm)]; exact hb
  · rw [hid_out (not_pinned p hb fun x z => pin_tup z.symm)]; exact hb
theorem env0_hid {K : PySem.W.Frag} {mg : Str → Option Value} {base : Heap} {A : Around} {outer : List Env} {s : Shared} (p : Pinned S H) (e : Env0 P w K mg base A outer s H) : Env0 P w K mg base A outer s (hid S H) :=
  ⟨e.frames, e.mod, fun b o q => ⟨(e.bs b o q).1, by by_cases hb : b ∈ S.map (·.1); exact hid_in hb; rw [hid_out hb]; exact (e.bs b o q).2⟩, e.bsz, e.funs,
    fun b q => by by_cases hb : b ∈ S.map (·.1); exact hid_in hb; rw [hid_out hb]; exact e.frf b q, hok_hid p e.hok, e.bare⟩
theorem un_unh (p : Pinned S H) (x : HOk P w H h) (u : Un fs [] (hid S H) H1 h h') : Un fs [] H (unh S H H1) h h' where
  keep := fun b o q n hf hx => u.keep b o q (by by_cases hb : b ∈ S.map (·.1); exact hid_in hb; rw [hid_out hb]; exact n) hf hx
  slot := fun b o q n hf hx => u.slot b o q (by by_cases hb : b ∈ S.map (·.1); exact hid_in hb; rw [hid_out hb]; exact n) hf hx
  free := fun b o q n hx => by
    have hb : b ∉ S.map (·.1) := fun hb => by obtain ⟨_, _, e⟩ := p.get hb; rw [n] at e; cases e
    rw [unh_out hb]
    exact u.free b o q (by rw [hid_out hb]; exact n) hx
  there := u.there
  tups := fun b xs e => by
    have hb := not_pinned p e fun x z => pin_tup z.symm
    rw [unh_out hb]; exact u.tups b xs (by rw [hid_out hb]; exact e)
  frzs := fun b o v e => by
    have hb := not_pinned p e fun x z => pin_frz z.symm
    rw [unh_out hb]; exact u.frzs b o v (by rw [hid_out hb]; exact e)
  tbls := fun b ps e => by
    have hb := not_pinned p e fun x z => pin_tbl z.symm
    rw [unh_out hb]; exact u.tbls b ps (by rw [hid_out hb]; exact e)
theorem hok_unh (p : Pinned S H) (x : HOk P w H h) (hfs : ∀ b ∈ fs, H b = none) (u : Un fs [] (hid S H) H1 h h') (y : HOk P w H1 h') : HOk P w (unh S H H1) h' := fun a o e => by
  have out : ∀ b, b ∈ S.map (·.1) → H1 b = none := fun b hb => by
    obtain ⟨o, _, e⟩ := p.get hb
    exact u.free b o (pin_at x e) (hid_in hb) (by simp)
  by_cases ha : a ∈ S.map (·.1)
  · rw [unh_in ha] at e
    obtain ⟨o2, _, e2⟩ := p.get ha
    rw [e] at e2
    cases e2
    have q := u.keep a o2 (pin_at x e) (hid_in ha) (fun z => by rw [hfs a z] at e; cases e) (by simp)
    exact ⟨q, ⟨_, q⟩, fun h1 h2 z st => st _ z⟩
  · rw [unh_out ha] at e
    refine (y a o e).stay (fun b u _ q => q) (fun b hb => ?_) (fun b xs hb => ?_)
    · rw [unh_out fun z => by rw [out b z] at hb; cases hb]; exact hb
    · rw [unh_out fun z => by rw [out b z] at hb; cases hb]; exact hb
end
/-! ### the promise of a function that is handed on: pre, what the heap holds of it -/
structure LamOk (P : Program) (w : World) (K : PySem.W.Frag) (mg : Str → Option Value) (base : Heap) (k : Nat) (f : Addr) (n : Nat) (pre : Hp → Prop) (sp : Sp) : Prop where
  fn : ∀ H, pre H → ∃ q params body scope cl pm c' ctv, H f = some (PinO f (PySem.W.kla_obj "<lambda>" q params body scope cl pm c' ctv))
  len : ∀ vs H Q E, sp vs H Q E → vs.length = n
  run : ∀ (A : Around) (outer : List Env) (s : Shared) (H : Hp) (us : List Value) (vs : List V) (Q : VK) (E : XK), Room k A → Env0 P w K mg base A outer s H → pre H → Vals vs us → sp vs H Q E →
    codeAny (model P w) A (.call (.ref f) ⟨us, []⟩) (CR CX0 outer P w H s Q E) s
theorem LamOk.mono {P : Program} {w : World} {K : PySem.W.Frag} {mg : Str → Option Value} {base : Heap} {j k : Nat} {f : Addr} {n : Nat} {pre : Hp → Prop} {sp : Sp} (L : LamOk P w K mg base j f n pre sp) (h : j ≤ k) : LamOk P w K mg base k f n pre sp :=
  ⟨L.fn, L.len, fun A outer s H us vs Q E hr => L.run A outer s H us vs Q E (hr.mono h)⟩
/-- what the heap holds of a lambda: itself and its cells pinned, its code object -/
structure LamAt (f c' : Addr) (q : Str) (params : Arguments) (body : Expr) (scope : Scope) (cl : List (Str × Addr)) (pm ctv : Value) (caps : List (Addr × Obj)) (H : Hp) : Prop where
  fn : H f = some (PinO f (PySem.W.kla_obj "<lambda>" q params body scope cl pm c' ctv))
  co : H c' = some (CodeO c' q)
  cel : Pinned caps H
/-- the captured names: fr, held by caps, whose values are ws -/
structure CapOk (cl : List (Str × Addr)) (fr : List Str) (caps : List (Addr × Obj)) (ws : List V) : Prop where
  len : ws.length = fr.length
  all : ∀ y c, cl.lookup y = some c → c ∈ caps.map (·.1)
  cell : ∀ p ∈ caps, ∃ v, p.2.data = .cell v
  inj : ∀ x y c, cl.lookup x = some c → cl.lookup y = some c → x = y
  has : ∀ (i : Nat) (y : Str), fr[i]? = some y → ∃ c o u v, cl.lookup y = some c ∧ (c, o) ∈ caps ∧ o.data = .cell (some u) ∧ ws[i]? = some v ∧ L2.RelV v u
theorem CapOk.at_ {cl : List (Str × Addr)} {fr : List Str} {caps : List (Addr × Obj)} {ws : List V} {P : Program} {w : World} {H : Hp} {h : Heap} (C : CapOk cl fr caps ws) (p : Pinned caps H) (x : HOk P w H h) : CellsAt cl fr (ws.map some) h (hid caps H) := by
  refine ⟨by rw [List.length_map]; exact C.len, fun y c e => ?_, C.inj, fun i y e => ?_⟩
  · have hc := C.all y c e
    obtain ⟨o, hm, e2⟩ := p.get hc
    obtain ⟨v, hv⟩ := C.cell _ hm
    exact ⟨hid_in hc, v, o, pin_at x e2, hv⟩
  · obtain ⟨c, o, u, v, e1, hm, e2, e3, e4⟩ := C.has i y e
    refine ⟨c, e1, fun v' hv => ?_⟩
    rw [List.getElem?_map, e3] at hv
    cases hv
    exact ⟨u, e4, o, pin_at x (p _ hm), e2⟩
theorem unh_hid {S : List (Addr × Obj)} {H : Hp} : unh S H (hid S H) = H := funext fun b => by
  by_cases hb : b ∈ S.map (·.1)
  · rw [unh_in hb]
  · rw [unh_out hb, hid_out hb]
/-- what is no pin is not hidden -/
theorem hid_see {S : List (Addr × Obj)} {H : Hp} {b : Addr} {o : HO} (p : Pinned S H) (e : H b = some o) (n : ∀ x, o ≠ PinO b x) : hid S H b = some o := by rw [hid_out (not_pinned p e n)]; exact e
/-- it is held on while all but lists and dicts stands -/
theorem LamAt.on {f c' : Addr} {q : Str} {params : Arguments} {body : Expr} {scope : Scope} {cl : List (Str × Addr)} {pm ctv : Value} {caps : List (Addr × Obj)} {H H' : Hp} (h : LamAt f c' q params body scope cl pm ctv caps H)
    (t : ∀ b o, H b = some o → (∀ xs, o ≠ .lst xs) → (∀ kvs, o ≠ .dK kvs) → H' b = some o) : LamAt f c' q params body scope cl pm ctv caps H' :=
  ⟨t _ _ h.fn (fun _ => pin_lst) fun _ => pin_dK, t _ _ h.co (fun _ z => (by unfold CodeO at z; cases z)) (fun _ z => (by unfold CodeO at z; cases z)), fun p hp => t _ _ (h.cel p hp) (fun _ => pin_lst) fun _ => pin_dK⟩
/-- the heap behind: all but the pins as the call left it -/
theorem ext_back {f : Addr} {caps : List (Addr × Obj)} {H1 H2 H3 H4 H5 : Hp} (x : ExtN H1 H2) (s : Same H2 H3) (s4 : Same H3 H4) (h5 : ∀ b, H5 b = H4 b ∨ (H5 b = none ∧ H2 b = none ∧ (b = f ∨ b ∈ caps.map (·.1)))) : ExtN H1 H5 ∧ Same H2 H5 := by
  have k : Same H2 H5 := fun b o e => by
    rcases h5 b with z | ⟨_, z, _⟩
    · rw [z]; exact s4 _ _ (s _ _ e)
    · rw [e] at z; cases z
  exact ⟨fun b o e n => k _ _ (x b o e n), k⟩
/-- THE RULE: a lambda by its body, told in the heap without its cells -/
theorem lam_ok {P : Program} {w : World} {K : PySem.W.Frag} {mg : Str → Option Value} {base : Heap} {k : Nat} {f c' : Addr} {q : Str} {params : Arguments} {body : Expr} {scope : Scope} {cl : List (Str × Addr)} {pm ctv : Value} {caps : List (Addr × Obj)} {N ps fr : List Str} {ws : List V} {sp : Sp}
    (S : NScope N ps fr scope) (hb : ∀ (us : List Value), us.length = ps.length → bindArgs (PySem.W.kla_fn "<lambda>" q params body scope cl pm (.ref c') ctv) ⟨us, []⟩ = pure (ps.zip us)) (C : CapOk cl fr caps ws) (len : ∀ vs H Q E, sp vs H Q E → vs.length = ps.length)
    (hbody : ∀ (A : Around) (outer : List Env) (s : Shared) (H : Hp) (vs : List V) (Q : VK) (E : XK), Room k (A.deeper (envF ⟨"<lambda>", q, params, [], scope, cl, c'⟩ f s.heap.objs.size)) → LamAt f c' q params body scope cl pm ctv caps H → sp vs H Q E →
      ∃ t, PE (ncx CX0 P w K mg base N ⟨"<lambda>", q, params, [], scope, cl, c'⟩ f A outer s (hid caps H) E) body t ∧ t (startF N vs (ws.map some)) (hid caps H) (fun v H1 => (∀ b ∈ caps.map (·.1), H1 b = none) → Q v (unh caps H H1))) :
    LamOk P w K mg base (k + 1) f ps.length (LamAt f c' q params body scope cl pm ctv caps) sp := by
  refine ⟨fun H p => ⟨_, _, _, _, _, _, _, _, p.fn⟩, len, fun A outer s H us vs Q E hr e0 p r hsp => ?_⟩
  have hl := len _ _ _ _ hsp
  have noLim : s.heap.NoLimit := e0.mod.nolimit.keeps fun x y q => (e0.bs x y q).1
  have of1 := pin_at e0.hok p.fn
  obtain ⟨⟨oc, vs', t', hoc, hdc, hvc⟩, _, _⟩ := e0.hok c' _ p.co
  refine PySem.W.kla_callFunE hr.depth of1 rfl S.co S.gen rfl ⟨c', oc, vs', t', rfl, hoc, hdc, hvc⟩ ?_
  rw [hb us (by rw [← r.length]; exact hl)]
  refine wpAny_pure (wpAny_newFunctionEnv S.nocell (fun p hp => S.par p.1 (List.of_mem_zip (b := p.2) hp).1) (fun g ns sb => ⟨noLim.fresh _ sb, ?_⟩) S.kind)
  show codeAny _ _ (.expr body (envF ⟨"<lambda>", q, params, [], scope, cl, c'⟩ f s.heap.objs.size)) _ _
  have kp : ∀ x y, s.heap.get? x = some y → g.get? x = some y := fun x y q => sb.extBut x y (Nat.ne_of_lt (Heap.lt_size q)) (Heap.get?_push_of_some _ q)
  obtain ⟨t, ht, hq⟩ := hbody A outer s H vs Q E (hr.deeper _) p hsp
  have I : Inv (ncx CX0 P w K mg base N ⟨"<lambda>", q, params, [], scope, cl, c'⟩ f A outer s (hid caps H) E) [] (startF N vs (ws.map some)) (hid caps H) { s with heap := g, toks := s.toks + (ps.zip us).length } :=
    inv_startN S hr.hd (env0_hid p.cel e0) hl r (C.at_ p.cel e0.hok) ns kp
  refine PySem.W.kla_codeExpr (wpAny_mono (ht.run [] _ _ _ _ I hq) (fun u s' hs => ?_) fun e s' hs => hs)
  obtain ⟨v, H1, J, rv, q'⟩ := hs
  exact ⟨v, unh caps H H1, J.os, J.bare, un_unh p.cel e0.hok J.base, hok_unh p.cel e0.hok e0.frf J.base J.hok, rv, q' fun b hb => by
    obtain ⟨o, _, e⟩ := p.cel.get hb
    exact J.base.free b o (pin_at e0.hok e) (hid_in hb) (show b ∉ ([] : List Addr) by simp)⟩
/-! ### making one; the new object lies beyond the heap -/
section
variable {X : Cx} {pins : List (Addr × Obj)} {σ : L2.St} {H : Hp} {s : Shared}
/-- what is told of a lambda just made -/
structure Fresh (T : List (Addr × Str)) (X : Cx) (params : Arguments) (body : Expr) (scope : Scope) (H H1 : Hp) (s s1 : Shared) (f c' : Addr) (pm ctv : Value) : Prop where
  ext : ExtN H H1
  tab : Tabs T H1
  new : s.heap.objs.size ≤ f
  obj : s1.heap.get? f = some (PySem.W.kla_obj "<lambda>" (X.env.qual ++ "<lambda>") params body scope (cloFrom X.env.cells scope.names []) pm c' ctv)
  free : H1 f = none
  cod : H1 c' = some (CodeO c' (X.env.qual ++ "<lambda>"))
theorem lam_new {T : List (Addr × Str)} {c0 P0 : Addr} {params : Arguments} {body : Expr} {scope : Scope} {pos : Pos} {E Q : Value → Shared → Prop} (I : Inv X pins σ H s) (B : TabB X.base X.mg c0 P0) (hcd : X.env.code = .ref c0)
    (hin : (P0, X.env.qual ++ "<lambda>") ∈ T) (hun : ∀ p ∈ T, p.1 = P0 → p.2 = X.env.qual ++ "<lambda>") (tabs : Tabs T H) (nodef : defaultsOf params X.env = ([], [])) (caught : ∀ y ∈ scope.names, y.2 = .free → ∃ c, X.env.cells.lookup y.1 = some c)
    (next : ∀ (f c' : Addr) (pm ctv : Value) (H1 : Hp) (s1 : Shared), Inv X pins σ H1 s1 → Fresh T X params body scope H H1 s s1 f c' pm ctv → Q (.ref f) s1) :
    wpAny (model X.prog X.w) X.A (eval (.Lambda params body scope pos) X.env) Q E s := by
  obtain ⟨cods, atP, three, told⟩ := tabs _ hin
  have inHeap : s.heap.get? P0 = some { cls := .none, data := .fields cods } := I.hok P0 _ atP
  have blt : s.heap.BuiltinsAt X.mg P0 := B.bm.keeps I.bk
  refine PySem.W.kla_eval nodef ?_
  rcases hit : codeAmong pos cods.toList with _ | cv
  · refine PySem.W.kla_makeFunction (mg := X.mg) (c := c0) (P := P0) (ps := cods) (closure_ok caught) I.ok.glob (I.mod.glob.keeps I.bk) hcd (B.code.keeps I.bk) inHeap three hit B.gP blt ?_
    intro c' ctv g tk same above below named table
    obtain ⟨c2, oc, vals, t, same2, isc, dat, nam⟩ := named
    cases same2
    have big : s.heap.objs.size ≤ g.objs.size := Nat.le_trans above (Nat.le_of_lt below)
    have cFree : H c' = none := I.hok.fresh above
    have J := inv_table (t' := tk) (q := X.env.qual ++ "<lambda>") (c := c') (more := #[rawInt pos.line, rawInt pos.col, .ref c'])
      (h' := g.push (PySem.W.kla_obj "<lambda>" (X.env.qual ++ "<lambda>") params body scope (cloFrom X.env.cells scope.names []) ((X.mg "__name__").getD .none) c' ctv))
      I atP (fun b o nb e => Heap.get?_push_of_some _ (same b o nb e)) (Heap.get?_push_of_some _ table) above ⟨oc, vals, t, Heap.get?_push_of_some _ isc, dat, nam⟩
    have grow : ExtN H (upd (upd H P0 (.tbl (cods ++ #[rawInt pos.line, rawInt pos.col, .ref c']))) c' (CodeO c' (X.env.qual ++ "<lambda>"))) := by
      intro b o e n
      have n1 : b ≠ c' := ne_of_none e cFree
      have n2 : b ≠ P0 := fun z => by subst z; rw [atP] at e; exact n cods (Option.some.inj e).symm
      rw [upd_ne n1, upd_ne n2]; exact e
    have row : (cods ++ #[rawInt pos.line, rawInt pos.col, .ref c']).toList = cods.toList ++ [rawInt pos.line, rawInt pos.col, .ref c'] := by simp
    refine next g.objs.size c' _ ctv _ _ J ⟨grow, fun p hp => ?_, big, Heap.get?_push_size _ rfl, ?_, upd_same⟩
    · by_cases q : p.1 = P0
      · rw [q, hun p hp q]
        refine ⟨_, by rw [upd_ne (ne_of_none atP cFree), upd_same], by rw [row]; exact PySem.TriplesOk_snoc _ _ _ _ three, fun p2 cv2 z => ?_⟩
        rw [row] at z
        rcases among_app _ three z with z | z
        · obtain ⟨x, a, b⟩ := told p2 cv2 z
          exact ⟨x, a, grow _ _ b codeO_ne⟩
        · exact ⟨c', z, upd_same⟩
      · obtain ⟨ps2, a, b, d⟩ := tabs p hp
        refine ⟨ps2, ?_, b, fun p2 cv2 z => ?_⟩
        · rw [upd_ne (ne_of_none a cFree), upd_ne q]; exact a
        · obtain ⟨x, u, v⟩ := d p2 cv2 z
          exact ⟨x, u, grow _ _ v codeO_ne⟩
    · have n1 : g.objs.size ≠ c' := Nat.ne_of_gt below
      have n2 : g.objs.size ≠ P0 := Nat.ne_of_gt (Nat.lt_of_lt_of_le (Heap.lt_size inHeap) big)
      rw [upd_ne n1, upd_ne n2]; exact I.hok.fresh big
  · obtain ⟨c', isr, cod⟩ := told pos cv hit
    subst isr
    refine PySem.W.kla_makeFunctionHit (mg := X.mg) (c := c0) (P := P0) (ps := cods) (closure_ok caught) I.ok.glob (I.mod.glob.keeps I.bk) hcd (B.code.keeps I.bk) inHeap three hit blt ?_
    intro ctv g tk same big
    have J : Inv X pins σ H { s with heap := g.push (PySem.W.kla_obj "<lambda>" (X.env.qual ++ "<lambda>") params body scope (cloFrom X.env.cells scope.names []) ((X.mg "__name__").getD .none) c' ctv), toks := tk } := I.kept fun b o e => Heap.get?_push_of_some _ (same b o e)
    exact next g.objs.size c' _ ctv H _ J ⟨ExtN.refl H, tabs, big, Heap.get?_push_size _ rfl, I.hok.fresh big, cod⟩
end
/-! ### the cells that it has caught -/
theorem caps_of {cl : List (Str × Addr)} {fr : List Str} {ws : List V} {h : Heap} {H : Hp} (C : CellsAt cl fr (ws.map some) h H) (cov : ∀ y c, cl.lookup y = some c → y ∈ fr) : ∃ caps : List (Addr × Obj), CapOk cl fr caps ws ∧ ∀ p ∈ caps, h.get? p.1 = some p.2 ∧ H p.1 = none ∧ ∃ y, cl.lookup y = some p.1 := by
  have lw : ws.length = fr.length := by have := C.len; rwa [List.length_map] at this
  have key : ∀ i : Fin fr.length, ∃ p : Addr × Obj, cl.lookup fr[i] = some p.1 ∧ h.get? p.1 = some p.2 ∧ ∃ u, p.2.data = .cell (some u) ∧ L2.RelV (ws[i.1]'(by omega)) u := fun i => by
    obtain ⟨c, e, hv⟩ := C.has i.1 fr[i] (List.getElem?_eq_getElem i.2)
    obtain ⟨u, r, o, ho, hd⟩ := hv (ws[i.1]'(by omega)) (by rw [List.getElem?_map, List.getElem?_eq_getElem (by omega)]; rfl)
    exact ⟨(c, o), e, ho, u, hd, r⟩
  refine ⟨(List.finRange fr.length).map fun i => Classical.choose (key i), ⟨lw, fun y c e => ?_, fun p hp => ?_, C.inj, fun i y e => ?_⟩, fun p hp => ?_⟩
  · obtain ⟨i, hi, ei⟩ := List.getElem_of_mem (cov y c e)
    have k := Classical.choose_spec (key ⟨i, hi⟩)
    refine List.mem_map.mpr ⟨_, List.mem_map.mpr ⟨⟨i, hi⟩, List.mem_finRange _, rfl⟩, ?_⟩
    have k2 : cl.lookup fr[i] = some c := by rw [ei]; exact e
    exact Option.some.inj (k.1.symm.trans k2)
  · obtain ⟨i, _, rfl⟩ := List.mem_map.mp hp
    obtain ⟨_, _, u, d, _⟩ := Classical.choose_spec (key i)
    exact ⟨_, d⟩
  · obtain ⟨hi, ei⟩ := List.getElem?_eq_some_iff.mp e
    obtain ⟨a, _, u, d, r⟩ := Classical.choose_spec (key ⟨i, hi⟩)
    refine ⟨_, _, u, ws[i]'(by omega), ?_, List.mem_map.mpr ⟨⟨i, hi⟩, List.mem_finRange _, rfl⟩, d, List.getElem?_eq_getElem (by omega), r⟩
    rw [← ei]; exact a
  · obtain ⟨i, _, rfl⟩ := List.mem_map.mp hp
    obtain ⟨a, b, _⟩ := Classical.choose_spec (key i)
    exact ⟨b, (C.all _ _ a).1, _, a⟩
/-! ### the pinned ones shown, for the time of a call -/
section
variable {P : Program} {w : World} {S : List (Addr × Obj)} {H H4 : Hp} {h h' : Heap} {fs : List Addr}
theorem shw_out {b : Addr} (hb : b ∉ S.map (·.1)) : shw S H b = H b := by
  unfold shw
  have : S.find? (fun p => p.1 == b) = none := List.find?_eq_none.mpr fun p hp z => hb (List.mem_map.mpr ⟨p, hp, by simpa using z⟩)
  rw [this]
theorem shw_pin (hs : ∀ p ∈ S, h.get? p.1 = some p.2) : Pinned S (shw S H) := fun p hp => by
  unfold shw
  cases e : S.find? (fun q => q.1 == p.1) with
  | none => exact absurd (List.find?_eq_none.mp e p hp) (by simp)
  | some q =>
    have e1 : q.1 = p.1 := by simpa using List.find?_some e
    have e2 := hs q (List.mem_of_find?_eq_some e)
    have e3 := hs p hp
    rw [e1, e3] at e2
    show some (PinO q.1 q.2) = some (PinO p.1 p.2)
    rw [e1, ← Option.some.inj e2]
theorem same_shw (hn : ∀ p ∈ S, H p.1 = none) : Same H (shw S H) := fun b o e => by
  rw [shw_out fun z => by obtain ⟨p, hp, rfl⟩ := List.mem_map.mp z; rw [hn p hp] at e; cases e]; exact e
theorem hok_shw (hs : ∀ p ∈ S, h.get? p.1 = some p.2) (hn : ∀ p ∈ S, H p.1 = none) (x : HOk P w H h) : HOk P w (shw S H) h := fun a o e => by
  have sm := same_shw hn
  by_cases ha : a ∈ S.map (·.1)
  · obtain ⟨p, hp, rfl⟩ := List.mem_map.mp ha
    have e2 := shw_pin (H := H) hs p hp
    rw [e] at e2
    cases e2
    exact ⟨hs p hp, ⟨_, hs p hp⟩, fun h1 h2 z st => st _ z⟩
  · rw [shw_out ha] at e
    exact (x a o e).stay (fun b u _ q => q) (fun b hb => sm _ _ hb) fun b xs hb => sm _ _ hb
theorem un_shw (hs : ∀ p ∈ S, h.get? p.1 = some p.2) (hn : ∀ p ∈ S, H p.1 = none) (p4 : Pinned S H4) (y : HOk P w H4 h') (u : Un fs [] (shw S H) H4 h h') : Un fs [] H (hid S H4) h h' := by
  have stay : ∀ b o, b ∈ S.map (·.1) → h.get? b = some o → h'.get? b = some o := fun b o hb e => by
    obtain ⟨p, hp, rfl⟩ := List.mem_map.mp hb
    have e2 := hs p hp
    rw [e] at e2
    cases e2
    exact pin_at y (p4 p hp)
  have sm := same_shw hn
  have out : ∀ b o, H b = some o → b ∉ S.map (·.1) := fun b o e z => by obtain ⟨p, hp, rfl⟩ := List.mem_map.mp z; rw [hn p hp] at e; cases e
  refine ⟨fun b o e n hf hx => ?_, fun b o e n hf hx => ?_, fun b o e n hx => ?_, u.there, fun b xs e => ?_, fun b o v e => ?_, fun b ps e => ?_⟩
  · by_cases hb : b ∈ S.map (·.1)
    · exact stay b o hb e
    · exact u.keep b o e (by rw [shw_out hb]; exact n) hf hx
  · by_cases hb : b ∈ S.map (·.1)
    · exact ⟨o.slots, stay b o hb e⟩
    · exact u.slot b o e (by rw [shw_out hb]; exact n) hf hx
  · by_cases hb : b ∈ S.map (·.1)
    · exact hid_in hb
    · rw [hid_out hb]; exact u.free b o e (by rw [shw_out hb]; exact n) hx
  · rw [hid_out (out b _ e)]; exact u.tups b xs (sm _ _ e)
  · rw [hid_out (out b _ e)]; exact u.frzs b o v (sm _ _ e)
  · rw [hid_out (out b _ e)]; exact u.tbls b ps (sm _ _ e)
end
/-! ### the two rules -/
/-- x(e, ..), x a name that holds a function handed on -/
def tAct (X : Cx) (k i : Nat) (t : TA) : TE := fun σ H Q => ∃ (f : Addr) (n : Nat) (pre : Hp → Prop) (sp : Sp), σ[i]? = some (some (.ref f)) ∧ LamOk X.prog X.w X.K X.mg X.base k f n pre sp ∧ pre H ∧ t σ H fun vs H1 => pre H1 ∧ sp vs H1 Q E0
theorem pe_act {X : Cx} {i j k : Nat} {x : Str} {e : Expr} {es : List Expr} {t : TA} {p pos : Pos} (hr : Room j X.A) (hk : k ≤ j) (hN : X.N[i]? = some x) (hv : Vis X.env.scope x) (ha : PA X (e :: es) t)
    (hd : (x == ("__debug__" : Str)) = false := by decide) (hcd : (x == ("__classdict__" : Str)) = false := by decide)
    (he : starEach (e :: es) X.env = (false, eval e X.env) :: starEach es X.env := by rfl) (hpl : (backTo pos (starEach es X.env)).any (·.1) = false := by rfl) :
    PE X (.Call (.Name x p) (e :: es) [] pos) (tAct X k i t) := by
  refine ⟨fun pins s σ H Q I h => ?_⟩
  obtain ⟨f, n, pre, sp, at_, L, now, args⟩ := h
  have isF : ∀ {H1 : Hp} {s1 : Shared}, Inv X pins σ H1 s1 → pre H1 → PySem.W.FnAt f s1.heap := fun {H1 s1} J p1 => by
    obtain ⟨_, _, _, _, _, _, _, _, e1⟩ := L.fn _ p1
    exact ⟨_, _, _, _, pin_at J.hok e1⟩
  refine wpAny_Call_Name_kw (thn ((pe_var (pos := p) hN hv hd hcd).run pins s σ H (fun v H1 => v = .ref f ∧ H1 = H) I ⟨.ref f, at_, rfl, rfl⟩) fun u s1 ⟨v, H1, J, r1, isv, isH⟩ => ?_)
  subst isv isH
  cases (show u = Value.ref f from r1)
  refine PySem.W.callWith_F (first := []) (isF J now) (thn (ha.run pos pins s1 σ H1 _ J args) fun us s2 ⟨vs, H2, J2, r2, now2, told⟩ => ⟨isF J2 now2, ?_⟩) he hpl
  show wpAny _ _ (call (.ref f) us) _ _ _
  refine wpAny_call (codeAny_mono ((L.mono hk).run X.A X.stack s2 H2 us vs Q E0 hr J2.env0 now2 r2 told) fun r s3 done => ?_)
  rcases r with e3 | fl
  · exact done.elim
  · cases fl <;> first
      | exact J2.after done
      | exact done.elim
/-- what a lambda catches: its free names are fr, each a cell's or a free one of the def -/
def capB (sc scope : Scope) (fr : List Str) : Bool :=
  (scope.names.all fun y => !decide (y.2 = .free) || (decide (y.1 ∈ fr) && (decide (sc.names.lookup y.1 = some .cell) || decide (sc.names.lookup y.1 = some .free)))) && fr.all fun y => decide ((y, NameKind.free) ∈ scope.names)
theorem capB_of {sc scope : Scope} {fr : List Str} (h : capB sc scope fr = true) : (∀ y ∈ scope.names, y.2 = .free → sc.names.lookup y.1 = some .cell ∨ sc.names.lookup y.1 = some .free) ∧ (∀ y ∈ fr, (y, NameKind.free) ∈ scope.names) ∧ ∀ y ∈ scope.names, y.2 = .free → y.1 ∈ fr := by
  unfold capB at h
  simp only [Bool.and_eq_true, Bool.or_eq_true, Bool.not_eq_true', List.all_eq_true, decide_eq_true_eq, decide_eq_false_iff_not] at h
  exact ⟨fun y hy e => ((h.1 y hy).resolve_left fun n => n e).2, h.2, fun y hy e => ((h.1 y hy).resolve_left fun n => n e).1⟩
/-- x(e, lambda ..: ..), x a def: sp is told in a heap in which the lambda and its cells are pinned -/
def tHand (T : List (Addr × Str)) (X : Cx) (params : Arguments) (body : Expr) (scope : Scope) (fr : List Str) (js : List Nat) (sp : Sp) (t : TE) : TE := fun σ H Q => t σ H fun v H1 => Tabs T H1 ∧ ∃ ws : List V, js.map (slotAt σ) = ws.map some ∧
  ∀ (f c' : Addr) (pm ctv : Value) (caps : List (Addr × Obj)) (H2 H3 : Hp), ExtN H1 H2 → Tabs T H2 → Same H2 H3 → H2 f = none → CapOk (cloFrom X.env.cells scope.names []) fr caps ws → (∀ p ∈ caps, H2 p.1 = none) →
    LamAt f c' (X.env.qual ++ "<lambda>") params body scope (cloFrom X.env.cells scope.names []) pm ctv caps H3 →
    sp [v, .ref f] H3 (fun u H4 => LamAt f c' (X.env.qual ++ "<lambda>") params body scope (cloFrom X.env.cells scope.names []) pm ctv caps H4 ∧ ∀ H5, (∀ b, H5 b = H4 b ∨ (H5 b = none ∧ H2 b = none ∧ (b = f ∨ b ∈ caps.map (·.1)))) → Q u H5) E0
theorem pe_hand {X : Cx} {T : List (Addr × Str)} {c0 P0 g : Addr} {k : Nat} {x : Str} {fd : FuncData} {ps : List Str} {sp : Sp} {e1 : Expr} {t : TE} {params : Arguments} {body : Expr} {scope : Scope} {fr : List Str} {js : List Nat} {p lpos pos : Pos}
    (G : FnOk X.prog X.w X.K X.mg X.base CX0 k g fd ps sp) (hr : Room k X.A) (hg : Gl X x) (hm : X.mg x = some (.ref g)) (kp : PySem.W.keepIn X.K (.ref g) = true) (hb : Binds X.K fd ps [])
    (B : TabB X.base X.mg c0 P0) (hcd : X.env.code = .ref c0) (hin : (P0, X.env.qual ++ "<lambda>") ∈ T) (hun : ∀ p ∈ T, p.1 = P0 → p.2 = X.env.qual ++ "<lambda>") (nodef : defaultsOf params X.env = ([], []))
    (hcap : capB X.env.scope scope fr = true)
    (hjs : js.map (fun j => X.N[j]?) = fr.map some) (own : ∀ y, X.fn y = true) (h1 : PE X e1 t)
    (hdb : (x == ("__debug__" : Str)) = false := by decide) (he : starEach [e1, .Lambda params body scope lpos] X.env = (false, eval e1 X.env) :: starEach [.Lambda params body scope lpos] X.env := by rfl)
    (hpl : (backTo pos (starEach [.Lambda params body scope lpos] X.env)).any (·.1) = false := by rfl) :
    PE X (.Call (.Name x p) [e1, .Lambda params body scope lpos] [] pos) (tHand T X params body scope fr js sp t) := by
  refine ⟨fun pins s σ H Q I h => ?_⟩
  obtain ⟨hfree, hfr, hcov⟩ := capB_of hcap
  have caught : ∀ y ∈ scope.names, y.2 = .free → ∃ c, X.env.cells.lookup y.1 = some c := fun y hy e => (hfree y hy e).elim (fun z => I.ok.has _ (.inl z)) fun z => I.ok.has _ (.inr z)
  refine wpAny_Call_Name_kw (ld_glob I hg hm ?_ hdb)
  refine PySem.W.callWith_K (h₀ := X.base) I.ok.mod.kin kp ?_ he hpl
  rw [he]
  show wpAny _ _ (spliced ((false, eval e1 X.env) :: (false, eval (.Lambda params body scope lpos) X.env) :: backTo pos (starEach [] X.env))) _ _ s
  refine Calls.spliced_cons (thn (h1.run pins s σ H _ I h) fun u1 s1 ⟨v, H1, J1, r1, tabs, ws, hws, told⟩ => ?_)
  refine Calls.spliced_cons (lam_new J1 B hcd hin hun tabs nodef caught fun f c' pm ctv H2 s2 J2 F => ?_)
  refine Calls.spliced_nil ⟨J2.kIn, ?_⟩
  have cp : Caps X (cloFrom X.env.cells scope.names []) fr js := Caps.made I.ok hfree hfr hjs
  have CA := cells_of J2 cp
  rw [hws] at CA
  obtain ⟨caps, C, hc⟩ := caps_of CA fun y c e => by
    rcases cloFrom_mem (PySem.mem_of_lookup e) with z | ⟨z, _⟩
    · cases z
    · exact hcov _ z rfl
  have lo : ∀ b ∈ caps.map (·.1), X.s_0.heap.objs.size ≤ b ∧ b ≠ X.env.locals := fun b hb => by
    obtain ⟨p, hp, rfl⟩ := List.mem_map.mp hb
    obtain ⟨_, _, y, ey⟩ := hc p hp
    have ey2 := cp.sub _ _ ey
    exact ⟨J2.ok.cab y _ (own y) ey2, J2.cne y _ ey2⟩
  have lof : X.s_0.heap.objs.size ≤ f := Nat.le_trans J1.sz F.new
  have fl : f ≠ X.env.locals := fun z => Nat.lt_irrefl _ (Nat.lt_of_lt_of_le J1.lt (z ▸ F.new))
  have S0 : ∀ p ∈ (f, PySem.W.kla_obj "<lambda>" (X.env.qual ++ "<lambda>") params body scope (cloFrom X.env.cells scope.names []) pm c' ctv) :: caps, s2.heap.get? p.1 = some p.2 ∧ H2 p.1 = none ∧ X.s_0.heap.objs.size ≤ p.1 ∧ p.1 ≠ X.env.locals := fun p hp => by
    rcases List.mem_cons.mp hp with rfl | hp
    · exact ⟨F.obj, F.free, lof, fl⟩
    · exact ⟨(hc p hp).1, (hc p hp).2.1, lo _ (List.mem_map.mpr ⟨p, hp, rfl⟩)⟩
  generalize hS : (f, PySem.W.kla_obj "<lambda>" (X.env.qual ++ "<lambda>") params body scope (cloFrom X.env.cells scope.names []) pm c' ctv) :: caps = S at S0
  have a1 : ∀ p ∈ S, s2.heap.get? p.1 = some p.2 := fun p hp => (S0 p hp).1
  have a2 : ∀ p ∈ S, H2 p.1 = none := fun p hp => (S0 p hp).2.1
  have sm := same_shw a2
  have pin := shw_pin (H := H2) a1
  have basic : ∀ p ∈ S, X.base.get? p.1 = none := fun p hp => by
    cases q : X.base.get? p.1 with
    | none => rfl
    | some o => exact absurd (Nat.lt_of_lt_of_le (Heap.lt_size q) (Nat.le_trans I.ok.bsz (S0 p hp).2.2.1)) (Nat.lt_irrefl _)
  have nofr : ∀ p ∈ S, p.1 ∉ frs X.stack := fun p hp z => by
    rcases List.mem_cons.mp (J2.stkSub _ z) with q | q
    · exact (S0 p hp).2.2.2 q
    · obtain ⟨_, o, ho, _⟩ := I.ok.funs.mem q
      exact absurd (Nat.lt_of_lt_of_le (Heap.lt_size ho) (S0 p hp).2.2.1) (Nat.lt_irrefl _)
  have e0 := J2.env0
  have e3 : Env0 X.prog X.w X.K X.mg X.base X.A X.stack s2 (shw S H2) := ⟨e0.frames, e0.mod, fun b o q => ⟨(e0.bs b o q).1, by
      rw [shw_out fun z => by obtain ⟨p, hp, rfl⟩ := List.mem_map.mp z; rw [basic p hp] at q; cases q]; exact (e0.bs b o q).2⟩, e0.bsz, e0.funs, fun b q => by
      rw [shw_out fun z => by obtain ⟨p, hp, rfl⟩ := List.mem_map.mp z; exact nofr p hp q]; exact e0.frf b q, hok_shw a1 a2 e0.hok, e0.bare⟩
  have at3 : LamAt f c' (X.env.qual ++ "<lambda>") params body scope (cloFrom X.env.cells scope.names []) pm ctv caps (shw S H2) := ⟨pin (f, _) (by rw [← hS]; exact List.mem_cons_self ..), sm _ _ F.cod, fun p hp => pin p (by rw [← hS]; exact List.mem_cons_of_mem _ hp)⟩
  have free2 : ∀ p ∈ caps, H2 p.1 = none := fun p hp => (hc p hp).2.1
  have q3 := told f c' pm ctv caps H2 (shw S H2) F.ext F.tab sm F.free C free2 at3
  refine wpAny_call (codeAny_mono (G.run X.A X.stack s2 (shw S H2) ⟨[u1, .ref f], []⟩ [u1, .ref f] [v, .ref f] _ E0 hr e3 ?_ (.cons r1 (.cons rfl .nil)) q3) fun r s4 done => ?_)
  · have := hb s2 [u1, .ref f] J2.kIn (by rw [List.append_nil, ← G.len _ _ _ _ q3]; rfl)
    rwa [List.append_nil] at this
  rcases r with e5 | fl
  · exact done.elim
  cases fl
  all_goals first
    | exact done.elim
    | skip
  obtain ⟨v2, H4, os, bare, un, hok, r4, at4, q4⟩ := done
  have p4 : Pinned S H4 := fun p hp => by
    rw [← hS] at hp
    rcases List.mem_cons.mp hp with rfl | hp
    · exact at4.fn
    · exact at4.cel p hp
  refine J2.after ⟨v2, hid S H4, os, bare, un_shw a1 a2 p4 hok un, hok_hid p4 hok, r4, q4 _ fun b => ?_⟩
  by_cases hb' : b ∈ S.map (·.1)
  · refine .inr ⟨hid_in hb', ?_⟩
    rw [← hS, List.map_cons] at hb'
    rcases List.mem_cons.mp hb' with z | z
    · exact ⟨z ▸ F.free, .inl z⟩
    · refine ⟨?_, .inr z⟩
      obtain ⟨p, hp, rfl⟩ := List.mem_map.mp z
      exact free2 p hp
  · exact .inl (hid_out hb')
end KLm
set_option maxHeartbeats 2000000
/-! Rules of our own over the layer: see the remarks. -/
namespace Kx
open PySem PySem.Spec PyProof.Rows L2
/-! ### rules with the written part named (for the blocks of comprehensions) -/
section
variable {X : Cx} {K : PySem.W.Frag}
theorem inSeqK (h : X.K = K := by rfl) : OpR X (compareOp .In) (rIn K false) := by subst h; exact op_in_seq
theorem notInSeqK (h : X.K = K := by rfl) : OpR X (compareOp .NotIn) (rIn K true) := by subst h; exact op_notIn_seq
theorem ixLK (h : X.K = K := by rfl) : IxR X (rIxL K) := by subst h; exact ix_list
theorem ixTK (h : X.K = K := by rfl) : IxR X (rIxT K) := by subst h; exact ix_tup
end
/-! ### l.extend(t), t a tuple -/
def rExtT (K : PySem.W.Frag) : V → List V → Hp → VK → Prop := fun x vs H Q => ∃ l b xs zs, x = .ref l ∧ vs = [.ref b] ∧ H l = some (.lst xs) ∧ (∃ o : Obj, H b = some (.frz o (.tup zs)) ∧ o.dict = none ∧ o.slots = #[]) ∧ xs.length + zs.length ≤ sizeLine ∧ Q .non (upd H l (.lst (xs ++ zs)))
section
variable {X : Cx}
theorem mt_extT : MtR X "list.extend" (rExtT X.K) := by
  intro pins s σ H x vs v us Q I rx rv hyp
  obtain ⟨l, b, xs, zs, rfl, rfl, hH, ⟨o, hB, hd, hsl⟩, hz, fin⟩ := hyp
  cases rx
  obtain ⟨u, rfl, ru⟩ := rv.one
  cases ru
  obtain ⟨z, its, n, r, hl, e⟩ := I.lstM hH
  obtain ⟨e2, z2, its2, r2, hT⟩ := (show ObjOk X.prog X.w H s.heap b (.frz o (.tup zs)) from I.hok b _ hB)
  obtain ⟨o2, e3, hc2, n2, hd2⟩ := hT
  rw [e2] at e3
  cases e3
  obtain ⟨oc, od, dt, sl⟩ := o
  simp only at hc2 hd2 hd hsl
  subst hc2 hd2 hd hsl
  have w1 : its.length = xs.length := r.length.symm
  have w2 : its2.length = zs.length := r2.length.symm
  have size2 : its.toArray.size + its2.toArray.size ≤ sizeLine := by
    simp only [List.size_toArray, w1, w2]; exact hz
  have few : ¬ (!its.toArray.isEmpty && Builtin.List.listTooLong (its.toArray.size + its2.toArray.size)) = true := by
    rw [notLongL size2, Bool.and_false]; simp
  refine call_meets F.slot_list_extend ⟨_, e, rfl⟩ F.entry_list_extend (F.args_list_extend_2 _ _)
    (AutoSeq1.list_extend_list_tuple_0 l its.toArray n b its2.toArray n2 few (Nat.le_trans (Nat.le_add_right _ _) size2) (Nat.le_succ_of_le size2)) ⟨e, e2, ?_⟩
  refine ⟨.non, _, I.lset (its' := its ++ its2) hH e (by simp) (r.append r2) ?_, rfl, fin⟩
  simp only [List.length_append]; exact hz
end
/-! ### t[:0:-1]: a tuple backwards without its first item -/
section
variable {prog : Program} {w : World} {A : Around} {E : Value → Shared → Prop} {s : Shared}
theorem back_pick {α : Type} : ∀ l : List α, (List.range l.length).filterMap (fun m => l[l.length - 1 - m]?) = l.reverse := by
  intro l
  have h : ∀ k, k ≤ l.length → (List.range k).filterMap (fun m => l[l.length - 1 - m]?) = (l.drop (l.length - k)).reverse := by
    intro k
    induction k with
    | zero => intro _; simp
    | succ k ih =>
      intro hk
      rw [List.range_succ, List.filterMap_append, ih (by omega)]
      have e : l.drop (l.length - (k + 1)) = l[l.length - (k + 1)]'(by omega) :: l.drop (l.length - k) := by
        rw [List.drop_eq_getElem_cons (by omega)]
        congr 2
        omega
      rw [e, List.reverse_cons]
      congr 1
      have e2 : l[l.length - 1 - k]? = some (l[l.length - (k + 1)]'(by omega)) := by
        rw [← List.getElem?_eq_getElem]
        congr 1
        omega
      simp [e2]
  have := h l.length (Nat.le_refl _)
  simpa using this
theorem back_pick1 (xs : List Value) (h1 : 1 ≤ xs.length) : (List.range (xs.length - 1)).filterMap (fun (m : Nat) => xs[(((xs.length - 1 : Nat) : Int) + (m : Int) * (-1)).toNat]?) = (xs.drop 1).reverse := by
  have h := back_pick (xs.drop 1)
  rw [List.length_drop] at h
  rw [← h]
  have key : ∀ k, k ≤ xs.length - 1 → (List.range k).filterMap (fun (m : Nat) => xs[(((xs.length - 1 : Nat) : Int) + (m : Int) * (-1)).toNat]?) = (List.range k).filterMap (fun m => (xs.drop 1)[xs.length - 1 - 1 - m]?) := by
    intro k
    induction k with
    | zero => intro _; rfl
    | succ k ih =>
      intro hk
      rw [List.range_succ, List.filterMap_append, List.filterMap_append, ih (by omega)]
      congr 1
      have e : (((xs.length - 1 : Nat) : Int) + (k : Int) * (-1)).toNat = 1 + (xs.length - 1 - 1 - k) := by omega
      simp only [List.filterMap_cons, List.filterMap_nil, e, List.getElem?_drop]
  exact key _ (Nat.le_refl _)
theorem back_adjust (n : Nat) (h : 1 ≤ n) : Builtin.Slice.sliceAdjust none (some 0) (-1) (n : Int) = (((n - 1 : Nat) : Int), 0) := by
  unfold Builtin.Slice.sliceAdjust
  simp only [show ((-1 : Int) < 0) from by omega, if_true]
  refine Prod.ext ?_ ?_
  · show (n : Int) - 1 = _; omega
  · show (if (0 : Int) < 0 then max ((0 : Int) + (n : Int)) (-1) else min (0 : Int) ((n : Int) - 1)) = 0
    rw [if_neg (by omega)]; omega
theorem back_places (n : Nat) : Builtin.Slice.slicePlaces ((n : Nat) : Int) 0 (-1) = n := by
  unfold Builtin.Slice.slicePlaces
  simp only [show ¬ ((-1 : Int) > 0) from by omega, if_false, Int.neg_neg, Int.ediv_one]
  split <;> omega
theorem back_applied {sl : Addr} {vl vu vs : Value} {n : Nat} {Q : Int × Int × Nat → Shared → Prop} (h1 : 1 ≤ n) (hs : s.heap.IsSliceOf sl vl vu vs) (pl : IsPart vl none) (pu : IsPart vu (some 0)) (ps : IsPart vs (some (-1)))
    (h : Q (((n - 1 : Nat) : Int), -1, n - 1) s) : wpAny (model prog w) A (Builtin.Slice.sliceApplied (.ref sl) (pure (n : Int))) Q E s := by
  obtain ⟨os, ho, hc, hd⟩ := id hs
  unfold Builtin.Slice.sliceApplied Builtin.Slice.sliceFields
  refine wpAny_bind (wpAny_bind (wpAny_field ho hd (x := vl) rfl (wpAny_bind (wpAny_field ho hd (x := vu) rfl (wpAny_bind (wpAny_field ho hd (x := vs) rfl (wpAny_pure ?_)))))))
  refine wpAny_bind (HT.slicePart_ ps ?_)
  show wpAny _ _ (if ((-1 : Int) == 0) = true then _ else _) _ _ s
  rw [if_neg (by decide)]
  refine wpAny_bind (HT.slicePart_ pl (wpAny_bind (HT.slicePart_ pu (wpAny_bind (wpAny_pure ?_)))))
  show wpAny _ _ (match Builtin.Slice.sliceAdjust none (some 0) (-1) (n : Int) with | (lo, hi) => pure (lo, (-1 : Int), Builtin.Slice.slicePlaces lo hi (-1))) _ _ s
  rw [back_adjust n h1]
  show wpAny _ _ (pure (((n - 1 : Nat) : Int), (-1 : Int), Builtin.Slice.slicePlaces ((n - 1 : Nat) : Int) 0 (-1))) _ _ s
  rw [back_places]
  exact wpAny_pure h
theorem getItem_back {t sl : Addr} {items : Array Value} {vl vu vs : Value} {Q : Value → Shared → Prop} (h1 : 1 ≤ items.size) (ht : IsTup s.heap t items) (hs : s.heap.IsSliceOf sl vl vu vs) (pl : IsPart vl none) (pu : IsPart vu (some 0)) (ps : IsPart vs (some (-1)))
    (h : Q (.ref s.heap.objs.size) { s with heap := s.heap.push { cls := .type "tuple", data := .seq ((items.toList.drop 1).reverse).toArray } })
    (hsz : items.size ≤ sizeLine) : wpAny (model prog w) A (getItem (.ref t) (.ref sl)) Q E s := by
  have fits : sizeOk (.seq ((items.toList.drop 1).reverse).toArray) := by
    show ((items.toList.drop 1).reverse).toArray.size ≤ sizeLine
    simp only [List.size_toArray, List.length_reverse, List.length_drop, Array.length_toList]
    omega
  obtain ⟨os, ho, hc, hd⟩ := id hs
  have ty : s.TypeIs (.ref sl) "slice" := ⟨os, ho, hc⟩
  unfold getItem
  try with_reducible refine wpAny_holding ?_
  first | refine wpAny_bind (wpAny_pure ?_) | skip
  refine wpAny_bind (wpAny_sequenceKey ht.typeIs (by decide) ?_)
  refine wpAny_bind (wpAny_callSpecial?_slot (name := Str.ofString "__getitem__") ht.typeIs PyProof.Rows.slot_tuple_getitem
    (wpAny_call_entry PyProof.Rows.slot_tuple_getitem ht.typeIs F.entry_tuple_getitem ?_ (F.args_tuple_getitem_2 _ _)))
  show wpAny _ _ (Builtin.Tuple.tupleItemsOf (.ref t) >>= _) _ _ s
  refine wpAny_bind (tupleItemsOf_ ht ?_)
  refine wpAny_bind (wpAny_typeOf ty ?_)
  rw [if_pos (by decide)]
  refine wpAny_bind (back_applied (n := items.size) h1 hs pl pu ps ?_)
  have no : ¬ ((((items.size - 1 : Nat) : Int) == 0 && (-1 : Int) == 1 && (items.size - 1) == items.size) = true) := by simp
  show wpAny _ _ (if (((items.size - 1 : Nat) : Int) == 0 && (-1 : Int) == 1 && (items.size - 1) == items.size) = true then _ else _) _ _ s
  have e := back_pick1 items.toList (by simpa using h1)
  simp only [Array.length_toList, Array.getElem?_toList] at e
  rw [if_neg no, e]
  first
    | exact wpAny_bind (m := Builtin.Tuple.tupleExact _) (wpAny_newObj_type (wpAny_pure ⟨_, rfl, wpAny_pure h⟩) fits)
    | exact wpAny_bind (m := Builtin.Tuple.tupleExact _) (wpAny_newObj_type (wpAny_bind (wpAny_pure (wpAny_pure ⟨_, rfl, wpAny_pure h⟩))) fits)
    | exact wpAny_bind (wpAny_bind (m := Builtin.Tuple.tupleExact _) (wpAny_newObj_type (wpAny_pure (wpAny_pure ⟨_, rfl, wpAny_pure h⟩)) fits))
    | exact wpAny_bind (wpAny_bind (m := Builtin.Tuple.tupleExact _) (wpAny_newObj_type (wpAny_pure ⟨_, rfl, wpAny_pure h⟩) fits))
end
/-- what t[:0:-1] asks: t is not empty; the new tuple is told as an object that stands as it is -/
def tBackT (K : PySem.W.Frag) (te : TE) : TE := fun σ H Q => te σ H fun x H1 => ∃ a xs, x = .ref a ∧ SqT K H1 a xs ∧ xs ≠ [] ∧ ∀ p (o : Obj), H1 p = none → o.dict = none → o.slots = #[] → Q (.ref p) (upd H1 p (.frz o (.tup (xs.drop 1).reverse)))
section
variable {X : Cx}
theorem pe_cutback {e : Expr} {te : TE} {j k : Nat} {p0 p1 p2 p3 pos : Pos} (he : PE X e te) : PE X (.Subscript e (.Slice none (some (.Constant (.int 0) j p0)) (some (.UnaryOp .USub (.Constant (.int 1) k p1) p2)) p3) pos) (tBackT X.K te) := by
  refine ⟨fun pins s σ H Q I h => ?_⟩
  refine Subscript_ (thn (he.run pins s σ H _ I h) fun v s1 ⟨x, H1, I1, r1, q1⟩ => ?_)
  obtain ⟨a, xs, ex, hx, hne, fin⟩ := q1
  subst ex
  cases r1
  have hst : PO X (some (.UnaryOp .USub (.Constant (.int 1) k p1) p2)) (tPart (tUn (rU fun i => .int (-i)) (tC (.int 1)))) := po_some (pe_un un_neg pe_int)
  have hup : PO X (some (.Constant (.int 0) j p0)) (tPart (tC (.int 0))) := po_some pe_int
  refine wpAny_Slice (thn (po_none.run pins s1 σ H1 (fun o H2 => o = none ∧ H2 = H1) I1 ⟨rfl, rfl⟩) fun vl s2 ⟨l, H2, I2, pl, el, e2⟩ => ?_)
  subst el e2
  refine thn (hup.run pins s2 σ H2 (fun o H3 => o = some 0 ∧ H3 = H2) I2 ⟨0, rfl, rfl, rfl⟩) fun vu s3 ⟨u, H3, I3, pu, eu, e3⟩ => ?_
  subst eu e3
  refine thn (hst.run pins s3 σ H3 (fun o H4 => o = some (-1) ∧ H4 = H3) I3 ⟨1, rfl, -1, rfl, rfl, rfl⟩) fun vs s4 ⟨o, H4, I4, ps, eo, e4⟩ => ?_
  subst eo e4
  have I5 : Inv X pins σ H4 { s4 with heap := s4.heap.push { cls := .type "slice", data := .fields #[vl, vu, vs] } } := I4.kept (t' := s4.toks) fun b ob q => Heap.get?_push_of_some _ q
  obtain ⟨its, r, ht, hz⟩ := I5.tuple hx
  have hlen : its.length = xs.length := r.length.symm
  have h1 : 1 ≤ xs.length := by cases xs with | nil => exact absurd rfl hne | cons _ _ => simp
  show wpAny (model X.prog X.w) X.A (subscriptTail e (.Slice none (some (.Constant (.int 0) j p0)) (some (.UnaryOp .USub (.Constant (.int 1) k p1) p2)) p3) (.ref a) (.ref s4.heap.objs.size)) (EP X pins σ Q) X.xe { s4 with heap := s4.heap.push { cls := .type "slice", data := .fields #[vl, vu, vs] } }
  refine tail_any (ops := [.ref a, .ref s4.heap.objs.size]) ht.typeIs (PyProof.Rows.slot_tuple_getitem.lookup) ?_ (by with_unfolding_all rfl)
  refine getItem_back (by rw [List.size_toArray, hlen]; exact h1) ht (Heap.IsSliceOf.new _ vl vu vs) pl pu ps ?_ (by rw [List.size_toArray, hlen]; exact hz)
  refine ⟨.ref _, _, I5.laid (t' := s4.toks) (o := .frz { cls := .type "tuple", data := .seq ((its.drop 1).reverse).toArray } (.tup (xs.drop 1).reverse)) (fun b ob q => Heap.get?_push_of_some _ q) (Nat.le_refl _) ?_, rfl, fin _ _ (I5.hok.fresh (Nat.le_refl _)) rfl rfl⟩
  refine ⟨Heap.get?_push_size _ rfl, ?_, _, (r.drop 1).reverse, IsTup.new _ _⟩
  rw [List.length_reverse, List.length_drop]
  exact Nat.le_trans (Nat.sub_le _ _) hz
/-! ### tuple(l) of a list, told as an object that stands as it is -/
theorem call_tupleF : CallR X (.type "tuple") (fun xs H Q => ∃ p ys, xs = [.ref p] ∧ SqL X.K H p ys ∧ ∀ l (o : Obj), H l = none → o.dict = none → o.slots = #[] → Q (.ref l) (upd H l (.frz o (.tup ys)))) := by
  intro pins s σ H xs us Q I r hyp
  obtain ⟨p, ys, rfl, hq, fin⟩ := hyp
  obtain ⟨u, rfl, rx⟩ := vals1 r
  cases rx
  obtain ⟨its, r', pl, hz⟩ := I.list hq
  have w1 : its.length = ys.length := r'.length.symm
  refine call_tuple_list pl.isList (fun h' kp => ?_) (by rw [List.size_toArray, w1]; exact hz)
  have J : Inv X pins σ H { s with heap := h' } := I.kept (t' := s.toks) kp
  have J2 : Inv X pins σ (upd H h'.objs.size (.frz { cls := .type "tuple", data := .seq its.toArray } (.tup ys))) { s with heap := h'.push { cls := .type "tuple", data := .seq its.toArray } } :=
    J.laid (t' := s.toks) (fun b o e => Heap.get?_push_of_some _ e) (Nat.le_refl _) ⟨Heap.get?_push_size _ rfl, hz, its, r', IsTup.new _ _⟩
  exact ⟨.ref h'.objs.size, _, J2, rfl, fin _ _ (J.hok.fresh (Nat.le_refl _)) rfl rfl⟩
/-! ### dict(t) of a tuple of pairs -/
theorem pairs_list {pins : List (Addr × Obj)} {σ : L2.St} {H : Hp} {s : Shared} (I : Inv X pins σ H s) : ∀ {ps : List Addr} {kvs : List (Key × V)}, Paired (fun p kv => SqT X.K H p [kV kv.1, kv.2]) ps kvs →
    ∃ (prs : List (Key × Value)) (psv : List (Value × Value)), KV kvs prs ∧ prs.length = ps.length ∧ psv.length = ps.length ∧ ∀ (j : Nat) (u v : Value), psv[j]? = some (u, v) → ∃ b k, ps[j]? = some b ∧ prs[j]? = some (k, v) ∧ IsTup s.heap b #[u, v] ∧ keyIs k u = true
  | _, _, .nil => ⟨[], [], .nil, rfl, rfl, fun j u v e => by simp at e⟩
  | _, _, .cons (a := p) (b := kv) h t => by
    obtain ⟨prs, psv, r, l1, l2, hp⟩ := pairs_list I t
    obtain ⟨its, rv, ht, _⟩ := I.tuple h
    obtain ⟨u, y, ei, ru, ry⟩ := vals2 rv
    subst ei
    refine ⟨(kv.1, y) :: prs, (u, y) :: psv, .cons ⟨rfl, ry⟩ r, by simp [l1], by simp [l2], fun j u' v' e => ?_⟩
    cases j with
    | zero =>
      cases (Option.some.inj e)
      exact ⟨p, kv.1, rfl, rfl, ht, kV_is (P := X.prog) (w := X.w) ru⟩
    | succ j => exact hp j u' v' (by simpa using e)
theorem call_dictT (hcalm : X.calm = true) : CallR X (.type "dict") (fun xs H Q => ∃ (a : Addr) (o : Obj) (ps : List Addr) (kvs : List (Key × V)), xs = [.ref a] ∧ H a = some (.frz o (.tup (ps.map V.ref))) ∧ o.dict = none ∧ Paired (fun p kv => SqT X.K H p [kV kv.1, kv.2]) ps kvs ∧
    ∀ p, H p = none → Q (.ref p) (upd H p (.dK (mergeK [] kvs)))) := by
  intro pins s σ H xs us Q I r hyp
  obtain ⟨a, o, ps, kvs, ex, hq, hd, hp, fin⟩ := hyp
  subst ex
  obtain ⟨u, eu, rx⟩ := vals1 r
  subst eu
  cases rx
  obtain ⟨e2, hz, its, rv, hT⟩ := (show ObjOk X.prog X.w H s.heap a (.frz o (.tup (ps.map V.ref))) from I.hok a _ hq)
  obtain ⟨o2, e3, hc2, n2, hd2⟩ := hT
  rw [e2] at e3
  cases e3
  have ei := refs_at rv
  subst ei
  rw [List.length_map] at hz
  obtain ⟨prs, psv, rel, l1, l2, hpr⟩ := pairs_list I hp
  have items : PairItems s.heap (ps.map Value.ref).toArray (fun j => ps.getD j 0) psv := by
    refine ⟨by simp [l2], fun j k v e => ?_⟩
    obtain ⟨b, k', e1, _, e4, _⟩ := hpr j k v e
    refine ⟨by simp [e1], ?_⟩
    have eb : ps.getD j 0 = b := by simp [List.getD, e1]
    show PairAt s.heap (ps.getD j 0) k v
    rw [eb]
    exact .inl e4
  refine PySem.call_dict_pairs (knd := mixKind X.prog X.w) (kvs := prs) (PairArg.tuple a (ps.map Value.ref).toArray (fun j => ps.getD j 0) psv) (I.ok.hd hcalm) ⟨⟨o, n2, e2, hc2, hd, hd2⟩, items⟩ ⟨by rw [l1, l2], fun i key v e => ?_⟩ (by rw [l2]; exact hz) fun h' tk hd' k => ?_
  · obtain ⟨b, k', _, e5, _, e6⟩ := hpr i key v e
    exact ⟨k', e5, e6⟩
  · have hm : (s.heap.objs.size == sysModules) = false := beq_eq_false_iff_ne.mpr (Nat.ne_of_gt I.big)
    have few : (mergeK [] kvs).length ≤ sizeLine := by
      have z := length_mergeK kvs []
      rw [List.length_nil, Nat.zero_add, rel.length, l1] at z
      exact Nat.le_trans z hz
    exact ⟨.ref s.heap.objs.size, _, I.laid (t' := tk) (fun b o q => k b o (by simp) q) (Nat.le_refl _) (show ObjOk X.prog X.w _ _ _ (.dK (mergeK [] kvs)) from ⟨few, hm, merged [] prs, KV.merge rel .nil, hd'⟩), rfl, fin _ (I.hok.fresh (Nat.le_refl _))⟩
end
end Kx
namespace Kx
open PySem PySem.Spec PyProof.Rows L2
/-- a block cut behind its first statement: what holds there is named -/
theorem pss_cutK {X : Cx} {st : Stmt} {rest : List Stmt} {t u : TS} (h1 : PS X st t) (h2 : PSs X rest u) :
    PSs X (st :: rest) (fun D σ H => ∃ Mid : L2.St → Hp → Prop, t { D with nx := Mid } σ H ∧ ∀ σ' H', Mid σ' H' → u D σ' H') := Evl.pss_cut h1 h2
end Kx
namespace Kx
open PySem PySem.Spec PyProof.Rows L2
section
variable {X : Cx}
/-- a test, an expression, with a word behind it: what follows is shown once -/
theorem pt_cut {e : Expr} {t : TT} (h : PT X e t) : PT X e (fun σ H Q => ∃ M : Bool → Hp → Prop, t σ H M ∧ ∀ b H1, M b H1 → Q b H1) :=
  ⟨fun pins s σ H Q I ⟨M, hm, k⟩ => thn (h.run pins s σ H M I hm) fun b s1 ⟨H1, I1, q⟩ => ⟨H1, I1, k b H1 q⟩⟩
theorem pe_cut {e : Expr} {t : TE} (h : PE X e t) : PE X e (fun σ H Q => ∃ M : VK, t σ H M ∧ ∀ v H1, M v H1 → Q v H1) :=
  ⟨fun pins s σ H Q I ⟨M, hm, k⟩ => thn (h.run pins s σ H M I hm) fun b s1 ⟨v, H1, I1, r, q⟩ => ⟨v, H1, I1, r, k v H1 q⟩⟩
end
end Kx
namespace Kx
open PySem PySem.Spec PyProof.Rows L2
/-- a comprehension without a test: its element is asked -/
theorem yes_if {σ : L2.St} {H : Hp} {A B : Hp → Prop} (h : A H) : tYes σ H (fun b H3 => if b = true then A H3 else B H3) := by
  have e : (if true = true then A H else B H) := iteT h
  exact e
end Kx
/-! The mathematics: values as trees, what the two sides compute. -/
namespace Kx
open PySem PySem.Spec PyProof.Rows L2
inductive PV where
  | str (z : Str)
  | oth
  | tup (xs : List PV)
mutual
/-- how deep it is -/
def dep : PV → Nat
  | .str _ => 1
  | .oth => 1
  | .tup ts => 1 + depL ts
def depL : List PV → Nat
  | [] => 0
  | t :: r => max (dep t) (depL r)
end
theorem dep_pos : ∀ t : PV, 1 ≤ dep t
  | .str _ => by simp [dep]
  | .oth => by simp [dep]
  | .tup ts => by simp [dep]
theorem depL_mem : ∀ {l : List PV} {t : PV}, t ∈ l → dep t ≤ depL l
  | a :: r, t, h => by
    rcases List.mem_cons.mp h with rfl | h
    · simp only [depL]; omega
    · have := depL_mem h
      simp only [depL]; omega
theorem depL_le {l : List PV} {c : Nat} (h : ∀ t ∈ l, dep t ≤ c) : depL l ≤ c := by
  induction l with
  | nil => simp [depL]
  | cons a r ih =>
    have h1 := h a (List.mem_cons_self ..)
    have h2 := ih fun t ht => h t (List.mem_cons_of_mem _ ht)
    simp only [depL]; omega
/-- the number of parts of the maker with a word -/
def look (mk : List (Str × Int)) (w : Str) : Option Int := (mk.find? fun kv => kv.1 == w).map (·.2)
mutual
/-- is it a term (nm) or a tree? -/
def form (mk : List (Str × Int)) (nm : Bool) : PV → Bool
  | .str z => nm && (look mk z).isNone
  | .oth => false
  | .tup [] => false
  | .tup (.oth :: _) => false
  | .tup (.tup _ :: _) => false
  | .tup (.str w :: r) => (look mk w == some (r.length : Int)) && formL mk nm r
def formL (mk : List (Str × Int)) (nm : Bool) : List PV → Bool
  | [] => true
  | t :: r => form mk nm t && formL mk nm r
end
theorem formL_all (mk : List (Str × Int)) (nm : Bool) : ∀ l : List PV, formL mk nm l = l.all (form mk nm)
  | [] => rfl
  | t :: r => by simp only [formL, List.all_cons, formL_all mk nm r]
mutual
/-- the shape of a term: a text, or a tuple of a text and terms -/
def Tm : PV → Prop
  | .str _ => True
  | .oth => False
  | .tup [] => False
  | .tup (.oth :: _) => False
  | .tup (.tup _ :: _) => False
  | .tup (.str _ :: r) => TmL r
def TmL : List PV → Prop
  | [] => True
  | t :: r => Tm t ∧ TmL r
end
theorem TmL_mem : ∀ {l : List PV}, (∀ t ∈ l, Tm t) → TmL l
  | [], _ => trivial
  | t :: r, h => ⟨h t (List.mem_cons_self ..), TmL_mem fun x hx => h x (List.mem_cons_of_mem _ hx)⟩
theorem mem_TmL : ∀ {l : List PV}, TmL l → ∀ t ∈ l, Tm t
  | a :: r, h, t, ht => by
    rcases List.mem_cons.mp ht with rfl | ht
    · exact h.1
    · exact mem_TmL h.2 t ht
mutual
theorem form_tm {mk : List (Str × Int)} {nm : Bool} : ∀ t : PV, form mk nm t = true → Tm t
  | .str z, _ => trivial
  | .tup (.str w :: r), h => by
    simp only [form, Bool.and_eq_true] at h
    exact formL_tm r h.2
  | .oth, h => by simp [form] at h
  | .tup [], h => by simp [form] at h
  | .tup (.oth :: _), h => by simp [form] at h
  | .tup (.tup _ :: _), h => by simp [form] at h
theorem formL_tm {mk : List (Str × Int)} {nm : Bool} : ∀ l : List PV, formL mk nm l = true → TmL l
  | [], _ => trivial
  | t :: r, h => by
    simp only [formL, Bool.and_eq_true] at h
    exact ⟨form_tm t h.1, formL_tm r h.2⟩
end
end Kx
/-! The heap: what stands for a tree; the promises of the defs. -/
namespace Kx
open PySem PySem.Spec PyProof.Rows L2
/-- all its signs are signs -/
abbrev sok (z : Str) : Bool := PyData.strOk z
mutual
/-- the value v stands for the tree -/
inductive Is (H : Hp) : V → PV → Prop
  | str (z : Str) (ok : sok z = true) : Is H (.str z) (.str z)
  | non : Is H .non .oth
  | bl (b : Bool) : Is H (.bl b) .oth
  | int (i : Int) : Is H (.int i) .oth
  | lst {a : Addr} (e : ∃ xs, H a = some (.lst xs)) : Is H (.ref a) .oth
  | dict {a : Addr} {kvs : List (Key × V)} (e : H a = some (.dK kvs)) : Is H (.ref a) .oth
  | tup {a : Addr} {vs : List V} {ts : List PV} (e : H a = some (.tup vs)) (h : IsL H vs ts) : Is H (.ref a) (.tup ts)
inductive IsL (H : Hp) : List V → List PV → Prop
  | nil : IsL H [] []
  | cons {v : V} {vs : List V} {t : PV} {ts : List PV} (h : Is H v t) (r : IsL H vs ts) : IsL H (v :: vs) (t :: ts)
end
mutual
theorem Is.same {H H' : Hp} (x : Same H H') : ∀ {v : V} {t : PV}, Is H v t → Is H' v t
  | _, _, .str z k => .str z k
  | _, _, .non => .non
  | _, _, .bl b => .bl b
  | _, _, .int i => .int i
  | _, _, .lst e => .lst (e.elim fun xs e => ⟨xs, x _ _ e⟩)
  | _, _, .dict e => .dict (x _ _ e)
  | _, _, .tup e h => .tup (x _ _ e) (IsL.same x h)
theorem IsL.same {H H' : Hp} (x : Same H H') : ∀ {v : List V} {t : List PV}, IsL H v t → IsL H' v t
  | _, _, .nil => .nil
  | _, _, .cons h r => .cons (Is.same x h) (IsL.same x r)
end
theorem same_upd {H : Hp} {p : Addr} (h : H p = none) (o : HO) : Same H (upd H p o) := fun b u e => by rw [upd_ne (ne_of_none e h)]; exact e
theorem IsL.len {H : Hp} : ∀ {v : List V} {t : List PV}, IsL H v t → v.length = t.length
  | _, _, .nil => rfl
  | _, _, .cons _ r => by simp [IsL.len r]
theorem IsL.get {H : Hp} : ∀ {v : List V} {t : List PV}, IsL H v t → ∀ {i : Nat} {x : V}, v[i]? = some x → ∃ y, t[i]? = some y ∧ Is H x y
  | _, _, .nil, i, x, h => by simp at h
  | _, _, .cons h r, 0, x, e => by cases (Option.some.inj e); exact ⟨_, rfl, h⟩
  | _, _, .cons h r, i + 1, x, e => IsL.get r (by simpa using e)
theorem IsL.append {H : Hp} : ∀ {v : List V} {t : List PV} {v' : List V} {t' : List PV}, IsL H v t → IsL H v' t' → IsL H (v ++ v') (t ++ t')
  | _, _, _, _, .nil, h => h
  | _, _, _, _, .cons a r, h => .cons a (r.append h)
theorem IsL.take {H : Hp} : ∀ (n : Nat) {v : List V} {t : List PV}, IsL H v t → IsL H (v.take n) (t.take n)
  | 0, _, _, _ => .nil
  | n + 1, _, _, .nil => .nil
  | n + 1, _, _, .cons a r => .cons a (r.take n)
theorem IsL.drop {H : Hp} : ∀ (n : Nat) {v : List V} {t : List PV}, IsL H v t → IsL H (v.drop n) (t.drop n)
  | 0, _, _, h => h
  | n + 1, _, _, .nil => .nil
  | n + 1, _, _, .cons a r => r.drop n
theorem IsL.reverse {H : Hp} : ∀ {v : List V} {t : List PV}, IsL H v t → IsL H v.reverse t.reverse
  | _, _, .nil => .nil
  | _, _, .cons a r => by simp only [List.reverse_cons]; exact r.reverse.append (.cons a .nil)
theorem IsL.snoc_inv {H : Hp} {v : List V} {t : List PV} {x : V} (h : IsL H v t) (e : v[v.length - 1]? = some x) (hn : v ≠ []) : ∃ ts y, t = ts ++ [y] ∧ Is H x y ∧ IsL H v.dropLast ts := by
  have hl := h.len
  have hv : 0 < v.length := by cases v with | nil => exact absurd rfl hn | cons _ _ => simp
  obtain ⟨y, e2, hy⟩ := h.get e
  refine ⟨t.take (t.length - 1), y, ?_, hy, ?_⟩
  · have : t.length - 1 < t.length := by omega
    have e3 : t[t.length - 1]'this = y := by
      rw [hl, List.getElem?_eq_getElem this] at e2
      exact Option.some.inj e2
    have h2 := List.take_append_drop (t.length - 1) t
    have h3 : t.drop (t.length - 1) = [y] := by
      rw [List.drop_eq_getElem_cons this, e3, List.drop_eq_nil_of_le (by omega)]
    rw [h3] at h2
    exact h2.symm
  · rw [List.dropLast_eq_take, hl]
    exact h.take _
theorem Is.str_inv {H : Hp} {v : V} {z : Str} (h : Is H v (.str z)) : v = .str z := by cases h; rfl
theorem Is.tup_inv {H : Hp} {v : V} {ts : List PV} (h : Is H v (.tup ts)) : ∃ a vs, v = .ref a ∧ H a = some (.tup vs) ∧ IsL H vs ts := by
  cases h with
  | tup e h => exact ⟨_, _, rfl, e, h⟩
/-! ### isinstance -/
def tyOf : PV → Value → Prop := fun t u => match t with
  | .str _ => u = .type "str"
  | .tup _ => u = .type "tuple"
  | .oth => u = .type "NoneType" ∨ u = .type "bool" ∨ u = .type "int" ∨ u = .type "list" ∨ u = .type "dict"
theorem Is.ty {K : PySem.W.Frag} {H : Hp} {v : V} {t : PV} (h : Is H v t) : ∃ u, TyX K H v u ∧ tyOf t u := by
  cases h with
  | str z _ => exact ⟨_, .base (.str z), rfl⟩
  | non => exact ⟨_, .base .non, .inl rfl⟩
  | bl b => exact ⟨_, .base (.bl b), .inr (.inl rfl)⟩
  | int i => exact ⟨_, .base (.int i), .inr (.inr (.inl rfl))⟩
  | lst e => obtain ⟨xs, e⟩ := e; exact ⟨_, .base (.lst e), .inr (.inr (.inr (.inl rfl)))⟩
  | dict e => exact ⟨_, .base (.dK e), .inr (.inr (.inr (.inr rfl)))⟩
  | tup e h => exact ⟨_, .base (.tup e), rfl⟩
def isStr : PV → Bool
  | .str _ => true
  | _ => false
def isTup : PV → Bool
  | .tup _ => true
  | _ => false
theorem kit_str {K : PySem.W.Frag} {t : PV} {u : Value} (h : tyOf t u) : PySem.W.kitOne K u (.type "str") = some (isStr t) := by
  cases t with
  | str z => cases h; exact kit_ty (show kitB "str" "str" = some true by decide +kernel)
  | tup ts => cases h; exact kit_ty (show kitB "tuple" "str" = some false by decide +kernel)
  | oth => rcases h with rfl | rfl | rfl | rfl | rfl <;> exact kit_ty (by decide +kernel)
theorem kit_tup {K : PySem.W.Frag} {t : PV} {u : Value} (h : tyOf t u) : PySem.W.kitOne K u (.type "tuple") = some (isTup t) := by
  cases t with
  | str z => cases h; exact kit_ty (show kitB "str" "tuple" = some false by decide +kernel)
  | tup ts => cases h; exact kit_ty (show kitB "tuple" "tuple" = some true by decide +kernel)
  | oth => rcases h with rfl | rfl | rfl | rfl | rfl <;> exact kit_ty (by decide +kernel)
/-- what isinstance asks of such a value -/
theorem isi_str {K : PySem.W.Frag} {H : Hp} {v : V} {t : PV} {Q : VK} (h : Is H v t) (q : Q (.bl (isStr t)) H) : rIsi K [v, .ty "str"] H Q := by
  obtain ⟨u, a, b⟩ := h.ty (K := K)
  exact ⟨_, _, u, _, _, rfl, .ty _, a, kit_str b, q⟩
theorem isi_tup {K : PySem.W.Frag} {H : Hp} {v : V} {t : PV} {Q : VK} (h : Is H v t) (q : Q (.bl (isTup t)) H) : rIsi K [v, .ty "tuple"] H Q := by
  obtain ⟨u, a, b⟩ := h.ty (K := K)
  exact ⟨_, _, u, _, _, rfl, .ty _, a, kit_tup b, q⟩
theorem Paired.imp {α β : Type} {F G : α → β → Prop} : ∀ {l : List α} {m : List β}, Paired F l m → (∀ a b, F a b → G a b) → Paired G l m
  | _, _, .nil, _ => .nil
  | _, _, .cons h t, f => .cons (f _ _ h) (Paired.imp t f)
theorem Same.own {l : Addr} {H H1 : Hp} (x : Same H H1) (hl : H l = none) (o : HO) : Same H (upd H1 l o) := fun b u h => by rw [upd_ne (ne_of_none h hl)]; exact x b u h
end Kx
set_option maxHeartbeats 2000000
/-! == of a term and any value; del of the first items of a list. -/
namespace Kx
open PySem PySem.Spec PyProof.Rows L2
open MeetsSeq
open AutoSeq1 (wpAny_loadPart')
theorem str_declines_dict (b : Str) (u : Tok) (l : Addr) (c : Value) (es : Array DictEntry) (n : Nat) (dd : Option Addr) (sl : Array (Option Value)) :
    Meets (Builtin.«str.__eq__» ⟨[.str b u, .ref l], []⟩) (fun _ R s => s.heap.get? l = some { cls := c, dict := dd, data := .dict es n, slots := sl } ∧ R (.ok (.ret .notImplemented)) s) :=
  .of_wp fun prog w A R s h => by obtain ⟨hp, g, d, tk, os⟩ := s; obtain ⟨hl, h⟩ := h; wp_walk using wpAny_loadPart' hl, wpAny_load hl; exact ⟨_, rfl, h⟩
theorem tuple_declines_dict (l b : Addr) (items : Array Value) (n n2 : Nat) (dd dd2 : Option Addr) (sl sl2 : Array (Option Value)) (es : Array DictEntry) :
    Meets (Builtin.«tuple.__eq__» ⟨[.ref l, .ref b], []⟩) (fun _ R s => s.heap.get? l = some { cls := .type "tuple", dict := dd, data := .seq items n, slots := sl } ∧ s.heap.get? b = some { cls := .type "dict", dict := dd2, data := .dict es n2, slots := sl2 } ∧ R (.ok (.ret .notImplemented)) s) :=
  .of_wp fun prog w A R s h => by obtain ⟨hp, g, d, tk, os⟩ := s; obtain ⟨hl, hb, h⟩ := h; have f1 := F.sub_dict_tuple; wp_walk using wpAny_loadPart' hl, wpAny_loadPart' hb; exact ⟨_, rfl, h⟩
section
variable {prog : Program} {w : World} {A : Around} {E : Value → Shared → Prop} {s : Shared}
theorem dict_declines {b : Addr} {v : Value} {T : String} {Q : Value → Shared → Prop} (hb : s.TypeIs (.ref b) "dict") (hv : s.TypeIs v T) (hs : isSubtype (.type T) (.type "dict") = pure false) (h : Q .notImplemented s) :
    wpAny (model prog w) A (call (.builtin "dict.__eq__") [.ref b, v]) Q E s := by
  refine wpAny_call_entry PySem.F.slot_dict_eq hb PySem.F.entry_dict_eq ?_ (PySem.F.args_dict_eq_2 _ _)
  show wpAny _ _ (Builtin.Dict.dictSlotArgs "__eq__" ⟨[.ref b, v], []⟩ >>= _) _ _ s
  refine wpAny_bind ?_
  unfold Builtin.Dict.dictSlotArgs
  refine wpAny_bind (wpAny_notOrdered_dict hb ?_)
  show wpAny _ _ (pure (Value.ref b, v)) _ _ s
  refine wpAny_pure ?_
  refine wpAny_bind (wpAny_isInstance (T := T) hv hs ?_)
  simp only [Bool.not_false, if_true]
  refine wpAny_bind (wpAny_rule (wpAny_bind (wpAny_pure (wpAny_pure ⟨_, rfl, h⟩))))
end
section
variable {A : Around} {s : Shared}
/-- an exact dict stands at an address -/
def DictAt (s : Shared) (a : Addr) : Prop := ∃ es n dd sl, s.heap.get? a = some { cls := .type "dict", dict := dd, data := .dict es n, slots := sl }
theorem DictAt.typeIs {a : Addr} (h : DictAt s a) : s.TypeIs (.ref a) "dict" := by
  obtain ⟨es, n, dd, sl, h⟩ := h
  exact ⟨_, h, rfl⟩
theorem dictAt {X : Cx} {pins : List (Addr × Obj)} {σ : L2.St} {H : Hp} (I : Inv X pins σ H s) {a : Addr} {kvs : List (Key × V)} (e : H a = some (.dK kvs)) : DictAt s a := by
  obtain ⟨_, ya, va, ra, da⟩ := (show ObjOk X.prog X.w H s.heap a (.dK kvs) from I.hok a _ e)
  obtain ⟨⟨cls, dd, data, sl⟩, es, ep, h1, h2, h3, _⟩ := da
  simp only at h3
  subst h3
  have hc : cls = .type "dict" := h2.1
  subst hc
  exact ⟨es, ep, dd, sl, h1⟩
theorem eq_str_dict {a : Addr} (e : DictAt s a) (b : Str) (u : Tok) (hu : A.units < cLine) : SeqAt.EqAt A s (.str b u) (.ref a) false := fun prog w E Q h => by
  unfold eqBool
  refine wpAny_holding ?_
  refine wpAny_ite_split (fun hab => absurd (eq_of_beq hab) nofun) (fun _ => ?_)
  obtain ⟨es, n, dd, sl, ha⟩ := id e
  refine wpAny_bind (SeqAt.rc_eq_decline_or (k := false) (typeIs_str s b u) e.typeIs (by decide) PySem.F.sub_dict_str PySem.F.slot_str_eq PySem.F.slot_dict_eq_refl
    (fun _ hq => call_meets PySem.F.slot_str_eq (typeIs_str s b u) PySem.F.entry_str_eq (PySem.F.args_str_eq_2 _ _) (str_declines_dict b u a (.type "dict") es n dd sl) ⟨ha, hq⟩)
    (fun _ hq => dict_declines e.typeIs (typeIs_str s b u) PySem.F.sub_str_dict hq)
    (fun _ hq => wpAny_of_eq (rfl : isSame (.str b u) (.ref a) = pure false) hq) (.inr hu) (wpAny_truthy_bool h))
theorem eq_tuple_dict {l a : Addr} {items : Array Value} (hl : s.heap.IsTuple l items) (e : DictAt s a) (hu : A.units < cLine) : SeqAt.EqAt A s (.ref l) (.ref a) false := by
  obtain ⟨⟨cls, dd, data, sl⟩, ho, hc, n, hd⟩ := id hl
  obtain ⟨es, n2, dd2, sl2, ha⟩ := id e
  simp only at hc hd
  subst hc hd
  have hne : l ≠ a := fun q => by
    subst q
    rw [ho] at ha
    have := congrArg Obj.cls (Option.some.inj ha)
    simp at this
  refine .of_refs hne fun prog w E Q h => ?_
  exact SeqAt.rc_eq_decline_or (k := false) ⟨_, ho, rfl⟩ e.typeIs (by decide) PySem.F.sub_dict_tuple PySem.F.slot_tuple_eq PySem.F.slot_dict_eq_refl
    (fun _ hq => call_meets PySem.F.slot_tuple_eq ⟨_, ho, rfl⟩ PySem.F.entry_tuple_eq (PySem.F.args_tuple_eq_2 _ _) (tuple_declines_dict l a items n n2 dd dd2 sl sl2 es) ⟨ho, ha, hq⟩)
    (fun _ hq => dict_declines e.typeIs ⟨_, ho, rfl⟩ PySem.F.sub_tuple_dict hq)
    (fun _ hq => SeqAt.wpAny_isSame_ref_other' hne ho ha (by simp) hq) (.inr hu) h
end
/-! ### a term and any value -/
theorem isL_det_of {H : Hp} : True := trivial
mutual
theorem Is.det {H : Hp} : ∀ {v : V} {t t' : PV}, Is H v t → Is H v t' → t = t'
  | _, _, _, .str z _, .str _ _ => rfl
  | _, _, _, .non, .non => rfl
  | _, _, _, .bl b, .bl _ => rfl
  | _, _, _, .int i, .int _ => rfl
  | _, _, _, .lst e, h => by
    cases h with
    | lst _ => rfl
    | dict _ => rfl
    | tup e2 _ => obtain ⟨xs, e⟩ := e; rw [e] at e2; cases e2
  | _, _, _, .dict e, h => by
    cases h with
    | lst _ => rfl
    | dict _ => rfl
    | tup e2 _ => rw [e] at e2; cases e2
  | _, _, _, .tup e a, h => by
    cases h with
    | lst e2 => obtain ⟨xs, e2⟩ := e2; rw [e] at e2; cases e2
    | dict e2 => rw [e] at e2; cases e2
    | tup e2 b =>
      rw [e] at e2
      cases e2
      rw [IsL.det a b]
theorem IsL.det {H : Hp} : ∀ {v : List V} {t t' : List PV}, IsL H v t → IsL H v t' → t = t'
  | _, _, _, .nil, .nil => rfl
  | _, _, _, .cons a r, .cons b q => by rw [Is.det a b, IsL.det r q]
end
open Classical in
/-- are they one tree -/
noncomputable def one (a b : PV) : Bool := decide (a = b)
theorem one_self (a : PV) : one a a = true := by simp [one]
theorem one_ne {a b : PV} (h : a ≠ b) : one a b = false := by simp [one, h]
theorem one_iff {a b : PV} : one a b = true ↔ a = b := by simp [one]
theorem eq_term {X : Cx} {pins : List (Addr × Obj)} {σ : L2.St} {H : Hp} {s : Shared} (I : Inv X pins σ H s) : ∀ (n : Nat) (A : Around), A.units + n < cLine → ∀ (x y : V) (v u : Value) (a b : PV), dep a ≤ n → Is H x a → Tm a → Is H y b → RelV x v → RelV y u → SeqAt.EqAt A s v u (one a b)
  | 0, _, _, _, _, _, _, a, _, h, _, _, _, _, _ => absurd (dep_pos a) (by omega)
  | n + 1, A, hu, x, y, v, u, a, b, hc, ha, ta, hb, rx, ry => by
    have hu0 : A.units < cLine := by omega
    cases ha with
    | non => exact absurd ta id
    | bl _ => exact absurd ta id
    | int _ => exact absurd ta id
    | lst _ => exact absurd ta id
    | dict _ => exact absurd ta id
    | str z ok =>
      obtain ⟨t, rfl⟩ := (show ∃ t, v = Value.str z t from rx)
      cases hb with
      | str z2 ok2 =>
        obtain ⟨t2, rfl⟩ := (show ∃ t, u = Value.str z2 t from ry)
        have e : one (.str z) (.str z2) = (z == z2) := by
          by_cases q : z = z2
          · subst q; simp [one]
          · rw [one_ne (fun e => q (PV.str.inj e))]; simp [q]
        rw [e]
        exact .str_str z t z2 t2
      | non =>
        cases (show u = Value.none from ry)
        rw [one_ne (by simp)]
        exact .str_none _ _
      | bl b =>
        cases (show u = Value.bool b from ry)
        rw [one_ne (by simp)]
        exact .str_bool _ _ _
      | int i =>
        obtain ⟨t2, rfl⟩ := (show ∃ t, u = Value.int i t from ry)
        rw [one_ne (by simp)]
        exact .str_int _ _ _ _
      | lst e =>
        obtain ⟨xs, e⟩ := e
        cases (show u = Value.ref _ from ry)
        obtain ⟨us, r1, p1, _⟩ := I.list (SqL.of e)
        rw [one_ne (by simp)]
        exact .str_list _ _ p1.isList hu0
      | dict e =>
        cases (show u = Value.ref _ from ry)
        rw [one_ne (by simp)]
        exact eq_str_dict (dictAt I e) _ _ hu0
      | tup e h =>
        cases (show u = Value.ref _ from ry)
        obtain ⟨its, r, ht, _⟩ := I.tuple (.inl (.inl e))
        rw [one_ne (by simp)]
        exact .str_tuple _ _ ht hu0
    | @tup p vs ts e hL =>
      cases (show v = Value.ref _ from rx)
      obtain ⟨its, r, ht, _⟩ := I.tuple (.inl (.inl e))
      cases hb with
      | str z2 ok2 =>
        obtain ⟨t2, rfl⟩ := (show ∃ t, u = Value.str z2 t from ry)
        rw [one_ne (by simp)]
        exact .tuple_str _ _ ht hu0
      | non =>
        cases (show u = Value.none from ry)
        rw [one_ne (by simp)]
        exact .tuple_none ht hu0
      | bl b =>
        cases (show u = Value.bool b from ry)
        rw [one_ne (by simp)]
        exact .tuple_bool _ ht hu0
      | int i =>
        obtain ⟨t2, rfl⟩ := (show ∃ t, u = Value.int i t from ry)
        rw [one_ne (by simp)]
        exact .tuple_int _ _ ht hu0
      | lst e2 =>
        obtain ⟨xs, e2⟩ := e2
        cases (show u = Value.ref _ from ry)
        obtain ⟨us, r1, p1, _⟩ := I.list (SqL.of e2)
        rw [one_ne (by simp)]
        exact .tuple_list ht p1.isList hu0
      | dict e2 =>
        cases (show u = Value.ref _ from ry)
        rw [one_ne (by simp)]
        exact eq_tuple_dict ht (dictAt I e2) hu0
      | @tup p2 vs2 ts2 e2 hL2 =>
        cases (show u = Value.ref _ from ry)
        obtain ⟨its2, r2, ht2, _⟩ := I.tuple (.inl (.inl e2))
        by_cases hp : p = p2
        · subst hp
          rw [e] at e2
          cases e2
          rw [IsL.det hL hL2, one_self]
          exact .same _
        have l1 := r.length
        have l2 := r2.length
        have m1 := hL.len
        have m2 := hL2.len
        have key : one (.tup ts) (.tup ts2) = ((List.range (min its.toArray.size its2.toArray.size)).all (fun j => one (ts.getD j .oth) (ts2.getD j .oth)) && its.toArray.size == its2.toArray.size) := by
          rw [Bool.eq_iff_iff, one_iff, Bool.and_eq_true, List.all_eq_true, beq_iff_eq]
          simp only [List.size_toArray]
          constructor
          · intro q
            cases q
            exact ⟨fun j _ => one_self _, by omega⟩
          · rintro ⟨h1, h2⟩
            refine congrArg PV.tup (List.ext_getElem (by omega) fun j g1 g2 => ?_)
            have := one_iff.mp (h1 j (List.mem_range.mpr (by omega)))
            simpa [List.getD, g1, g2] using this
        rw [key]
        refine .of_refs hp (.tuples ht ht2 hu0 fun j h1 h2 => ?_)
        have j1 : j < vs.length := by rw [l1]; simpa using h1
        have j2 : j < vs2.length := by rw [l2]; simpa using h2
        obtain ⟨a1, ea, ia⟩ := hL.get (List.getElem?_eq_getElem j1)
        obtain ⟨b1, eb, ib⟩ := hL2.get (List.getElem?_eq_getElem j2)
        have ga : ts.getD j .oth = a1 := by simp [List.getD, ea]
        have gb : ts2.getD j .oth = b1 := by simp [List.getD, eb]
        rw [ga, gb]
        have mA := List.mem_of_getElem? ea
        have tA : Tm a1 := by
          cases ts with
          | nil => simp at ea
          | cons t0 tr =>
            cases t0 with
            | oth => exact absurd ta id
            | tup _ => exact absurd ta id
            | str z =>
              rcases List.mem_cons.mp mA with rfl | q
              · trivial
              · exact mem_TmL ta _ q
        have cA := depL_mem mA
        have cT : dep (.tup ts) = 1 + depL ts := rfl
        refine eq_term I n A.in1 (by show A.units + 1 + n < cLine; omega) vs[j] vs2[j] _ _ a1 b1 (by omega) ia tA ib ?_ ?_
        · obtain ⟨q, e1, e2⟩ := Vals.get r (List.getElem?_eq_getElem j1)
          have : its.toArray[j] = q := by
            have h1' : j < its.length := by simpa using h1
            rw [List.getElem?_eq_getElem h1'] at e1
            simpa using Option.some.inj e1
          rw [this]; exact e2
        · obtain ⟨q, e1, e2⟩ := Vals.get r2 (List.getElem?_eq_getElem j2)
          have : its2.toArray[j] = q := by
            have h2' : j < its2.length := by simpa using h2
            rw [List.getElem?_eq_getElem h2'] at e1
            simpa using Option.some.inj e1
          rw [this]; exact e2
/-- x == y, a tuple that is a term and a tuple -/
def rTm : R2 := fun x y H Q => ∃ ts us, Is H x (.tup ts) ∧ Tm (.tup ts) ∧ dep (.tup ts) ≤ 100 ∧ Is H y (.tup us) ∧ ∀ k : Bool, (k = true → ts = us) → Q (.bl k) H
theorem rc_term {X : Cx} {pins : List (Addr × Obj)} {σ : L2.St} {H : Hp} {s : Shared} (I : Inv X pins σ H s) {A : Around} {p p2 : Addr} {ts ts2 : List PV} (hu : A.units + 101 < cLine) (hc : dep (.tup ts) ≤ 100) (ha : Is H (.ref p) (.tup ts)) (ta : Tm (.tup ts)) (hb : Is H (.ref p2) (.tup ts2)) :
    SeqAt.RcAt A s (.ref p) (.ref p2) (one (.tup ts) (.tup ts2)) := by
  cases ha with
  | @tup _ vs _ e hL =>
  cases hb with
  | @tup _ vs2 _ e2 hL2 =>
  obtain ⟨its, r, ht, _⟩ := I.tuple (.inl (.inl e))
  obtain ⟨its2, r2, ht2, _⟩ := I.tuple (.inl (.inl e2))
  have l1 := r.length
  have l2 := r2.length
  have m1 := hL.len
  have m2 := hL2.len
  have key : one (.tup ts) (.tup ts2) = ((List.range (min its.toArray.size its2.toArray.size)).all (fun j => one (ts.getD j .oth) (ts2.getD j .oth)) && its.toArray.size == its2.toArray.size) := by
    rw [Bool.eq_iff_iff, one_iff, Bool.and_eq_true, List.all_eq_true, beq_iff_eq]
    simp only [List.size_toArray]
    constructor
    · intro q
      cases q
      exact ⟨fun j _ => one_self _, by omega⟩
    · rintro ⟨h1, h2⟩
      refine congrArg PV.tup (List.ext_getElem (by omega) fun j g1 g2 => ?_)
      have := one_iff.mp (h1 j (List.mem_range.mpr (by omega)))
      simpa [List.getD, g1, g2] using this
  rw [key]
  refine .tuples ht ht2 (by omega) fun j h1 h2 => ?_
  have j1 : j < vs.length := by rw [l1]; simpa using h1
  have j2 : j < vs2.length := by rw [l2]; simpa using h2
  obtain ⟨a1, ea, ia⟩ := hL.get (List.getElem?_eq_getElem j1)
  obtain ⟨b1, eb, ib⟩ := hL2.get (List.getElem?_eq_getElem j2)
  have ga : ts.getD j .oth = a1 := by simp [List.getD, ea]
  have gb : ts2.getD j .oth = b1 := by simp [List.getD, eb]
  rw [ga, gb]
  have mA := List.mem_of_getElem? ea
  have tA : Tm a1 := by
    cases ts with
    | nil => simp at ea
    | cons t0 tr =>
      cases t0 with
      | oth => exact absurd ta id
      | tup _ => exact absurd ta id
      | str z =>
        rcases List.mem_cons.mp mA with rfl | q
        · trivial
        · exact mem_TmL ta _ q
  have cA := depL_mem mA
  have cT : dep (.tup ts) = 1 + depL ts := rfl
  refine eq_term I 100 A.in1 (by show A.units + 1 + 100 < cLine; omega) vs[j] vs2[j] _ _ a1 b1 (by omega) ia tA ib ?_ ?_
  · obtain ⟨q, e1, e2⟩ := Vals.get r (List.getElem?_eq_getElem j1)
    have : its.toArray[j] = q := by
      have h1' : j < its.length := by simpa using h1
      rw [List.getElem?_eq_getElem h1'] at e1
      simpa using Option.some.inj e1
    rw [this]; exact e2
  · obtain ⟨q, e1, e2⟩ := Vals.get r2 (List.getElem?_eq_getElem j2)
    have : its2.toArray[j] = q := by
      have h2' : j < its2.length := by simpa using h2
      rw [List.getElem?_eq_getElem h2'] at e1
      simpa using Option.some.inj e1
    rw [this]; exact e2
section
variable {X : Cx}
theorem u101 {A : Around} {k : Nat} (r : Room k A) : A.units + 101 < cLine := by have := r.un; omega
theorem op_tm (hu : X.A.units + 101 < cLine) : OpR X (compareOp .Eq) rTm := by
  intro pins s σ H x y v u Q I rx ry h
  obtain ⟨ts, us, ha, ta, hc, hb, q⟩ := h
  obtain ⟨p, _, rfl, _⟩ := ha.tup_inv
  obtain ⟨p2, _, rfl, _⟩ := hb.tup_inv
  cases (show v = Value.ref p from rx)
  cases (show u = Value.ref p2 from ry)
  exact rc_term I hu hc ha ta hb _ _ _ _ ⟨.bl _, H, I, rfl, q _ fun k => PV.tup.inj (one_iff.mp k)⟩
end
/-! ### del xs[:-n] -/
def sel (m : Int) (i : Nat) : Bool := if (1 : Int) > 0 then decide ((0 : Int) ≤ (i : Int)) && decide ((i : Int) < m) && ((i : Int) - 0) % 1 == 0 else decide (m < (i : Int)) && decide ((i : Int) ≤ 0) && ((0 : Int) - i) % (-1) == 0
def keepTo (m : Int) : Array Value → Array Value := fun xs => (xs.toList.zipIdx.filterMap fun (x, k) => if sel m k then none else some x).toArray
theorem sel_eq (m : Nat) (i : Nat) : sel (m : Int) i = decide (i < m) := by
  unfold sel
  rw [if_pos (by decide)]
  have h0 : ((i : Int) - 0) % 1 = 0 := by omega
  rw [h0]
  have h1 : decide ((0 : Int) ≤ (i : Int)) = true := decide_eq_true (by omega)
  have h2 : decide ((i : Int) < (m : Int)) = decide (i < m) := decide_eq_decide.mpr (by omega)
  rw [h1, h2]
  simp
theorem keep_drop {α : Type} (m : Nat) : ∀ (l : List α) (k : Nat), (l.zipIdx k).filterMap (fun (x, i) => if decide (i < m) = true then none else some x) = l.drop (m - k)
  | [], k => by simp
  | x :: r, k => by
    rw [List.zipIdx_cons, List.filterMap_cons]
    have ih := keep_drop m r (k + 1)
    by_cases h : k < m
    · simp only [decide_eq_true h, if_true]
      rw [ih, show m - k = (m - (k + 1)) + 1 from by omega, List.drop_succ_cons]
    · have h' : decide (k < m) = false := decide_eq_false h
      simp only [h', Bool.false_eq_true, if_false]
      rw [ih, show m - k = 0 from by omega, show m - (k + 1) = 0 from by omega]
      rfl
theorem keepTo_eq (m : Nat) (its : List Value) : keepTo (m : Int) its.toArray = (its.drop m).toArray := by
  unfold keepTo
  congr 1
  have := keep_drop m its 0
  simp only [Nat.sub_zero] at this
  rw [← this]
  simp only [sel_eq]
theorem bounds_to {n len : Nat} : sliceBounds none (some (-(n + 1 : Nat) : Int)) none len = ((0 : Int), ((len - (n + 1) : Nat) : Int), 1) := by
  simp only [sliceBounds, Option.getD_none]
  simp only [show (1 : Int) > 0 by decide, if_true]
  have h1 : (-((n + 1 : Nat) : Int)) < 0 := by omega
  simp only [h1, if_true]
  congr 2
  omega
section
variable {prog : Program} {w : World} {A : Around} {E : Value → Shared → Prop} {s : Shared}
theorem delItem_to {l sl : Addr} {items : Array Value} {n k : Nat} {vu : Value} {Q : Unit → Shared → Prop}
    (e : s.heap.get? l = some { cls := .type "list", data := .seq items n }) (hs : s.heap.IsSliceOf sl .none vu .none) (pu : IsPart vu (some (-(k + 1 : Nat) : Int)))
    (hsz : items.size ≤ sizeLine) (h : Q () { s with heap := s.heap.update l (Obj.mapSeq (keepTo ((items.size - (k + 1) : Nat) : Int))) }) :
    wpAny (model prog w) A (delItem (.ref l) (.ref sl)) Q E s := by
  have hl : s.heap.IsList l items := PySem.IsL.isList e
  obtain ⟨os, hos, hcs, hds⟩ := id hs
  have hTs : s.TypeIs (.ref sl) "slice" := ⟨os, hos, hcs⟩
  have hstep : ¬ ((rawPart none == rawInt 0) = true) := Bool.false_ne_true
  have hz' : (keepTo ((items.size - (k + 1) : Nat) : Int) items).size ≤ sizeLine + 1 := by
    have := keepTo_eq (items.size - (k + 1)) items.toList
    rw [Array.toArray_toList] at this
    rw [this, List.size_toArray, List.length_drop, Array.length_toList]
    omega
  refine wpAny_delItem_slot hl.typeIs (by decide) PySem.F.slot_list_delitem (wpAny_call_entry PySem.F.slot_list_delitem hl.typeIs PySem.F.entry_list_delitem ?_ (PySem.F.args_list_delitem_2 _ _))
  show wpAny _ _ (Builtin.List.listSubscript? (.ref sl) >>= _) _ _ s
  refine wpAny_bind ?_
  unfold Builtin.List.listSubscript?
  refine wpAny_bind (wpAny_specialOf hTs slice_no_index ?_)
  simp only [Option.isNone_none, if_true]
  refine wpAny_pure ?_
  show wpAny _ _ (typeOf (.ref sl) >>= _) _ _ s
  refine wpAny_bind (wpAny_typeOf hTs ?_)
  first
    | rw [if_neg (by decide)]
    | refine PySem.W.KFB.if_not (by decide) ?_
  rw [listSliceParts_eq]
  refine wpAny_bind (wpAny_bind (wpAny_field hos hds (x := .none) rfl (wpAny_bind (wpAny_listPart .none ?_))))
  rw [if_neg hstep]
  refine wpAny_bind (wpAny_field hos hds (x := .none) rfl (wpAny_bind (wpAny_listPart .none ?_)))
  refine wpAny_bind (wpAny_field hos hds (x := vu) rfl (wpAny_bind (wpAny_listPart pu (wpAny_pure ?_))))
  show wpAny _ _ (Builtin.List.listItems (.ref l) >>= _) _ _ s
  unfold Builtin.List.listItems
  refine wpAny_bind (wpAny_bind (wpAny_seqItems e rfl (wpAny_pure ?_)))
  refine wpAny_bind (wpAny_of_eq ((sliceIndices_raw none (some (-(k + 1 : Nat) : Int)) none items.size (by simp)).trans (congrArg (pure : Int × Int × Int → Sem (Int × Int × Int)) bounds_to)) ?_)
  refine wpAny_bind (wpAny_rule ?_)
  show wpAny _ _ (updateSeq l (keepTo ((items.size - (k + 1) : Nat) : Int)) >>= _) _ _ s
  refine wpAny_bind (wpAny_updateSeq (hz := hsz) (_hz' := hz') e rfl ?_)
  refine wpAny_bind (wpAny_letGo ?_)
  first
    | exact wpAny_pure ⟨.none, rfl, h⟩
    | exact wpAny_bind (wpAny_pure (wpAny_pure ⟨.none, rfl, h⟩))
    | exact wpAny_pure ⟨.none, rfl, wpAny_pure h⟩
end
section
variable {X : Cx}
theorem del_to {pins : List (Addr × Obj)} {s : Shared} {σ : L2.St} {H : Hp} {l sl : Addr} {xs : List V} {k : Nat} {vu : Value} {Q : Unit → Shared → Prop} (I : Inv X pins σ H s) (hH : H l = some (.lst xs))
    (hs : s.heap.IsSliceOf sl .none vu .none) (pu : IsPart vu (some (-(k + 1 : Nat) : Int))) (h : ∀ s', Inv X pins σ (upd H l (.lst (xs.drop (xs.length - (k + 1))))) s' → Q () s') :
    wpAny (model X.prog X.w) X.A (delItem (.ref l) (.ref sl)) Q X.xe s := by
  obtain ⟨z, its, n, r, hl, e⟩ := I.lstM hH
  refine delItem_to (k := k) e hs pu (by rw [List.size_toArray]; omega) (h _ ?_)
  refine I.lset (its' := its.drop (its.length - (k + 1))) (t' := s.toks) hH e ?_ ?_ ?_
  · rw [List.size_toArray]; exact keepTo_eq _ its
  · rw [← hl]; exact r.drop _
  · rw [List.length_drop]; omega
/-- del o[:i] of a list, i below zero -/
def tDelTo (to ti : TE) : TS := fun D σ H => to σ H fun x H1 => tPart ti σ H1 fun o H2 => ∃ (l : Addr) (xs : List V) (k : Nat), x = .ref l ∧ o = some (-(k + 1 : Nat) : Int) ∧ H2 l = some (.lst xs) ∧ D.nx σ (upd H2 l (.lst (xs.drop (xs.length - (k + 1)))))
theorem ps_delTo {o i : Expr} {to ti : TE} {p3 tpos pos : Pos} (ho : PE X o to) (hi : PE X i ti) : PS X (.Delete [.Subscript o (.Slice none (some i) none p3) tpos] pos) (tDelTo to ti) := by
  refine ⟨fun pins s σ H D I h => ?_⟩
  refine wpAny_Delete (wpAny_deleteEach_cons (wpAny_delete_Subscript (thn (ho.run pins s σ H _ I h) fun u s1 ⟨x, H1, I1, rx, q1⟩ => ?_)))
  refine wpAny_Slice (thn (po_none.run pins s1 σ H1 (fun o H2 => o = none ∧ H2 = H1) I1 ⟨rfl, rfl⟩) fun vl s2 ⟨a, H2, I2, pl, el, e2⟩ => ?_)
  subst el e2
  refine thn ((po_some hi).run pins s2 σ H2 (fun o H3 => ∃ (l : Addr) (xs : List V) (k : Nat), x = .ref l ∧ o = some (-(k + 1 : Nat) : Int) ∧ H3 l = some (.lst xs) ∧ D.nx σ (upd H3 l (.lst (xs.drop (xs.length - (k + 1)))))) I2 q1) fun vu s3 ⟨b, H3, I3, pu, l, xs, k, ex, eb, hH, q⟩ => ?_
  refine thn (po_none.run pins s3 σ H3 (fun o H4 => o = none ∧ H4 = H3) I3 ⟨rfl, rfl⟩) fun vs s4 ⟨c, H4, I4, ps, ec, e4⟩ => ?_
  subst ec e4 ex eb
  cases (show u = Value.ref l from rx)
  have I5 : Inv X pins σ H4 { s4 with heap := s4.heap.push { cls := .type "slice", data := .fields #[vl, vu, vs] } } := I4.kept (t' := s4.toks) fun b ob q => Heap.get?_push_of_some _ q
  have hs := Heap.IsSliceOf.new s4.heap vl vu vs
  cases pl
  cases ps
  exact del_to I5 hH hs pu fun s' I' => wpAny_deleteEach_nil ⟨σ, _, I', q⟩
end
end Kx
namespace Kx
open PySem PySem.Spec PyProof.Rows L2
section
variable {P : Program} {w : World} {K : PySem.W.Frag} {mg : Str → Option Value} {base : Heap}
/-! ### what is kept -/
/-- all but lists and dicts stands -/
def Tu (H H' : Hp) : Prop := ∀ b o, H b = some o → (∀ xs, o ≠ .lst xs) → (∀ kvs, o ≠ .dK kvs) → H' b = some o
theorem Tu.refl (H : Hp) : Tu H H := fun _ _ h _ _ => h
theorem Tu.trans {H H1 H2 : Hp} (a : Tu H H1) (b : Tu H1 H2) : Tu H H2 := fun c o e h1 h2 => b c o (a c o e h1 h2) h1 h2
theorem Tu.of {H H1 : Hp} (s : Same H H1) : Tu H H1 := fun c o e _ _ => s c o e
theorem Tu.lst {H : Hp} {l : Addr} {xs : List V} (h : H l = some (.lst xs)) (ys : List V) : Tu H (upd H l (.lst ys)) := fun b o e h1 _ => by
  by_cases q : b = l
  · subst q; rw [h] at e; exact absurd (Option.some.inj e).symm (h1 xs)
  · rw [upd_ne q]; exact e
theorem Tu.dict {H : Hp} {l : Addr} {xs : List (Key × V)} (h : H l = some (.dK xs)) (ys : List (Key × V)) : Tu H (upd H l (.dK ys)) := fun b o e _ h1 => by
  by_cases q : b = l
  · subst q; rw [h] at e; exact absurd (Option.some.inj e).symm (h1 xs)
  · rw [upd_ne q]; exact e
theorem valV_mem {kvs : List (Key × V)} {k : Key} {v : V} (h : valV kvs k = some v) : (k, v) ∈ kvs := by
  unfold valV at h
  cases e : kvs.find? (fun kv => decide (kv.1 = k)) with
  | none => rw [e] at h; cases h
  | some kv =>
    rw [e] at h
    have h1 := List.find?_some e
    have h2 := List.mem_of_find?_eq_some e
    have h3 : kv.1 = k := of_decide_eq_true h1
    have h4 : kv.2 = v := Option.some.inj h
    rw [← h3, ← h4]; exact h2
/-- what stands for a result, for a tree's items -/
abbrev ResT := Hp → V → List PV → Prop
def Stable (R : ResT) : Prop := ∀ H H' v ts, Tu H H' → R H v ts → R H' v ts
def PairOk (R : ResT) (H0 H : Hp) (x : V) : Prop := ∃ p v r ts, x = .ref p ∧ H p = some (.tup [v, r]) ∧ Is H0 v (.tup ts) ∧ Tm (.tup ts) ∧ dep (.tup ts) ≤ 100 ∧ R H r ts
structure RowOk (W : List Str) (R : ResT) (H0 H : Hp) (kv : Key × V) : Prop where
  key : ∃ w, kv.1 = Sum.inr w ∧ w ∈ W
  row : ∃ r xs, kv.2 = .ref r ∧ H0 r = none ∧ H r = some (.lst xs) ∧ xs.length ≤ 32 ∧ ∀ x ∈ xs, PairOk R H0 H x
structure KeptAt (C : Addr) (W : List Str) (R : ResT) (H0 H : Hp) (ko : Addr) : Prop where
  at_ : ∃ dx d kvs, H ko = some (.ins C dx [("rows", .ref d)]) ∧ H d = some (.dK kvs) ∧ H0 d = none ∧ (kvs.map (·.1)).Nodup ∧ ∀ kv ∈ kvs, RowOk W R H0 H kv
/-- its own dict and lists -/
def Own (H : Hp) (ko b : Addr) : Prop := ∃ C dx d, H ko = some (.ins C dx [("rows", .ref d)]) ∧ (b = d ∨ ∃ kvs, H d = some (.dK kvs) ∧ ∃ kv ∈ kvs, kv.2 = .ref b)
/-- all but its own stands -/
structure Fr (ko : Addr) (H H' : Hp) : Prop where
  tu : Tu H H'
  keep : ∀ b o, H b = some o → ¬ Own H ko b → H' b = some o
  own : ∀ b, Own H' ko b → Own H ko b ∨ H b = none
theorem Fr.refl (ko : Addr) (H : Hp) : Fr ko H H := ⟨.refl H, fun _ _ h _ => h, fun _ h => .inl h⟩
theorem Fr.trans {ko : Addr} {H H1 H2 : Hp} (a : Fr ko H H1) (b : Fr ko H1 H2) : Fr ko H H2 := by
  refine ⟨a.tu.trans b.tu, fun c o e n => b.keep c o (a.keep c o e n) fun q => ?_, fun c q => ?_⟩
  · rcases a.own c q with z | z
    · exact n z
    · rw [e] at z; cases z
  · rcases b.own c q with z | z
    · exact a.own c z
    · cases e : H c with
      | none => exact .inr rfl
      | some o =>
        refine .inl (Classical.byContradiction fun n => ?_)
        have := a.keep c o e n
        rw [z] at this; cases this
theorem Own.same {H H' : Hp} {ko b : Addr} (s : Same H H') (h : Own H ko b) : Own H' ko b := by
  obtain ⟨C, dx, d, e, q⟩ := h
  refine ⟨C, dx, d, s _ _ e, ?_⟩
  rcases q with q | ⟨kvs, e2, q⟩
  · exact .inl q
  · exact .inr ⟨kvs, s _ _ e2, q⟩
theorem Own.back {C : Addr} {W : List Str} {R : ResT} {H0 H H' : Hp} {ko b : Addr} (s : Same H H') (k : KeptAt C W R H0 H ko) (h : Own H' ko b) : Own H ko b := by
  obtain ⟨dx, d, kvs, e1, e2, _⟩ := k
  obtain ⟨C', dx', d', f1, q⟩ := h
  rw [s _ _ e1] at f1
  cases f1
  refine ⟨_, _, d, e1, ?_⟩
  rcases q with q | ⟨kvs', f2, q⟩
  · exact .inl q
  · rw [s _ _ e2] at f2
    cases f2
    exact .inr ⟨kvs, e2, q⟩
theorem Own.there {C : Addr} {W : List Str} {R : ResT} {H0 H : Hp} {ko b : Addr} (k : KeptAt C W R H0 H ko) (h : Own H ko b) : H b ≠ none := by
  obtain ⟨dx, d, kvs, e1, e2, _, _, h5⟩ := k
  obtain ⟨C', dx', d', f1, q⟩ := h
  rw [e1] at f1
  cases f1
  rcases q with q | ⟨kvs', f2, kv, m, q⟩
  · rw [q, e2]; simp
  · rw [e2] at f2
    cases f2
    obtain ⟨_, r, xs, g, _, g2, _⟩ := h5 kv m
    rw [g] at q
    cases q
    rw [g2]; simp
theorem Own.of {C : Addr} {W : List Str} {R : ResT} {H0 H : Hp} {ko b : Addr} {o : HO} (k : KeptAt C W R H0 H ko) (h : H b = some o) (n1 : ∀ xs, o ≠ .lst xs) (n2 : ∀ kvs, o ≠ .dK kvs) : ¬ Own H ko b := fun q => by
  obtain ⟨dx, d, kvs, e1, e2, _, _, h5⟩ := k
  obtain ⟨C', dx', d', f1, q⟩ := q
  rw [e1] at f1
  cases f1
  rcases q with q | ⟨kvs', f2, kv, m, q⟩
  · rw [q, e2] at h; exact n2 _ (Option.some.inj h).symm
  · rw [e2] at f2
    cases f2
    obtain ⟨_, r, xs, g, _, g2, _⟩ := h5 kv m
    rw [g] at q
    cases q
    rw [g2] at h; exact n1 _ (Option.some.inj h).symm
theorem Fr.of {C : Addr} {W : List Str} {R : ResT} {H0 H H' : Hp} {ko : Addr} (s : Same H H') (k : KeptAt C W R H0 H ko) : Fr ko H H' := ⟨.of s, fun b o e _ => s b o e, fun b q => .inl (q.back s k)⟩
theorem PairOk.tu {R : ResT} {H0 H H' : Hp} {x : V} (st : Stable R) (t : Tu H H') (h : PairOk R H0 H x) : PairOk R H0 H' x := by
  obtain ⟨p, v, r, ts, e, hp, a, b, c, d⟩ := h
  exact ⟨p, v, r, ts, e, t _ _ hp (fun _ q => by cases q) (fun _ q => by cases q), a, b, c, st _ _ _ _ t d⟩
theorem RowOk.step {W : List Str} {R : ResT} {H0 H H' : Hp} {kv : Key × V} (h : RowOk W R H0 H kv) (hl : ∀ r xs, H0 r = none → H r = some (.lst xs) → xs.length ≤ 32 → (∀ x ∈ xs, PairOk R H0 H x) → ∃ ys, H' r = some (.lst ys) ∧ ys.length ≤ 32 ∧ ∀ x ∈ ys, PairOk R H0 H' x) : RowOk W R H0 H' kv := by
  obtain ⟨k, r, xs, e, h0, h1, h2, h3⟩ := h
  obtain ⟨ys, g1, g2, g3⟩ := hl r xs h0 h1 h2 h3
  exact ⟨k, r, ys, e, h0, g1, g2, g3⟩
theorem RowOk.same {W : List Str} {R : ResT} {H0 H H' : Hp} {kv : Key × V} (st : Stable R) (s : Same H H') (h : RowOk W R H0 H kv) : RowOk W R H0 H' kv :=
  h.step fun r xs _ h1 h2 h3 => ⟨xs, s _ _ h1, h2, fun x hx => (h3 x hx).tu st (.of s)⟩
theorem KeptAt.same {C : Addr} {W : List Str} {R : ResT} {H0 H H' : Hp} {ko : Addr} (st : Stable R) (s : Same H H') (h : KeptAt C W R H0 H ko) : KeptAt C W R H0 H' ko := by
  obtain ⟨dx, d, kvs, h1, h2, h3, h4, h5⟩ := h
  exact ⟨dx, d, kvs, s _ _ h1, s _ _ h2, h3, h4, fun kv m => (h5 kv m).same st s⟩
/-- a list that is not its own is written -/
theorem KeptAt.own {C : Addr} {W : List Str} {R : ResT} {H0 H : Hp} {ko l : Addr} {xs : List V} (st : Stable R) (h : KeptAt C W R H0 H ko) (e : H l = some (.lst xs)) (n : ¬ Own H ko l) (ys : List V) : KeptAt C W R H0 (upd H l (.lst ys)) ko := by
  have t := Tu.lst e ys
  obtain ⟨dx, d, kvs, h1, h2, h3, h4, h5⟩ := id h
  have nd : d ≠ l := fun z => n ⟨_, _, d, h1, .inl z.symm⟩
  refine ⟨dx, d, kvs, t _ _ h1 (fun _ z => by cases z) (fun _ z => by cases z), by rw [upd_ne nd]; exact h2, h3, h4, fun kv m => ?_⟩
  obtain ⟨k, r, xs', e1, e0, e2, e3, e4⟩ := h5 kv m
  have nr : r ≠ l := fun z => n ⟨_, _, d, h1, .inr ⟨kvs, h2, kv, m, by rw [e1, z]⟩⟩
  exact ⟨k, r, xs', e1, e0, by rw [upd_ne nr]; exact e2, e3, fun x hx => (e4 x hx).tu st t⟩
theorem few_rows {W : List Str} {R : ResT} {H0 H : Hp} {kvs : List (Key × V)} (nd : (kvs.map (·.1)).Nodup) (h : ∀ kv ∈ kvs, RowOk W R H0 H kv) : kvs.length ≤ W.length := by
  have s : kvs.map (·.1) ⊆ W.map (fun w => (Sum.inr w : Key)) := by
    intro k hk
    obtain ⟨kv, m, rfl⟩ := List.mem_map.mp hk
    obtain ⟨w, e, hw⟩ := (h kv m).key
    rw [e]
    exact List.mem_map.mpr ⟨w, hw, rfl⟩
  have := nd.length_le_of_subset s
  simpa using this
/-! ### the methods -/
def spKInit (C : Addr) : Sp := fun vs H Q _ => ∃ (x dx : Addr), vs = [.ref x] ∧ H x = some (.ins C dx []) ∧ ∀ d, H d = none → Q .non (upd (upd H d (.dK [])) x (.ins C dx [("rows", .ref d)]))
def spKPair (C : Addr) : Sp := fun vs H Q _ => ∃ (ko a : Addr) (w : Str) (us : List V) (ts : List PV) (W : List Str) (R : ResT) (H0 : Hp), vs = [.ref ko, .ref a] ∧ Stable R ∧ Same H0 H ∧ KeptAt C W R H0 H ko ∧ H0 a = some (.tup (.str w :: us)) ∧ Is H0 (.ref a) (.tup (.str w :: ts)) ∧
  ∀ e, H e = none → Q .non (upd H e (.lst [])) ∧ ∀ p v r, upd H e (.lst []) p = some (.tup [v, r]) → R (upd H e (.lst [])) r (.str w :: ts) → Q (.ref p) (upd H e (.lst []))
def spKKeep (C : Addr) : Sp := fun vs H Q _ => ∃ (ko a : Addr) (rv : V) (w : Str) (us : List V) (ts : List PV) (W : List Str) (R : ResT) (H0 : Hp), vs = [.ref ko, .ref a, rv] ∧ Stable R ∧ Same H0 H ∧ KeptAt C W R H0 H ko ∧ W.length ≤ 20 ∧ H0 a = some (.tup (.str w :: us)) ∧ Is H0 (.ref a) (.tup (.str w :: ts)) ∧ w ∈ W ∧ Tm (.tup (.str w :: ts)) ∧ dep (.tup (.str w :: ts)) ≤ 100 ∧ R H rv (.str w :: ts) ∧
  ∀ H', Same H0 H' → Fr ko H H' → KeptAt C W R H0 H' ko → Q .non H'
theorem ok_Kept_init (T : Txt K mg)  : FnOk P w K mg base CX0 1 T.a_Kept_init T.d_Kept_init ["self"] (spKInit T.c_Kept) := by
  refine T.F_Kept_init.ok sc_Kept_init (fun vs H Q E h => ?_) (fun cdv A outer s H vs Q E hr h => ?_)
  · obtain ⟨x, dx, rfl, _⟩ := h; rfl
  · obtain ⟨x, dx, rfl, ex, q⟩ := h
    refine ⟨_, (pss_one (ps_fld (pv 0) pe_dnewK rfl)), ?_⟩
    intro d hd
    exact ⟨_, rfl, x, _, dx, [], rfl, (by rw [upd_ne (ne_of_none ex hd)]; exact ex), T.cl_Kept, T.no_Kept_rows, (by decide), q d hd⟩
theorem ok_Kept_pair_of (T : Txt K mg)  : FnOk P w K mg base CX0 1 T.a_Kept_pair_of T.d_Kept_pair_of ["self", "tree"] (spKPair T.c_Kept) := by
  refine T.F_Kept_pair_of.ok sc_Kept_pair_of (fun vs H Q E h => ?_) (fun cdv A outer s H vs Q E hr h => ?_)
  · obtain ⟨ko, a, w, us, ts, W, R, H0, rfl, _⟩ := h; rfl
  · obtain ⟨ko, a, w, us, ts, W, R, H0, rfl, st, s0, hK, ea, hI, q⟩ := h
    have hu := hu_of hr
    refine ⟨_, (pss_cons (ps_for PassesOwn.never rfl (RT.pi_revA (by rfl) T.z_reversed (pe_dget2 hu (pe_fld (pv 0) rfl) (pe_ix ix_tup (pv 1) pe_int (fun _ _ => rfl)) (pe_lst pa_nil) ⟨rfl, rfl, rfl, rfl⟩)) (pg_name (i := 2) sc_Kept_pair_of.nd rfl (Or.inl rfl))
    (pss_one (ps_if (pt_cmpR (op_tm (u101 hr)) (pe_ix ix_tup (pv 2) pe_int (fun _ _ => rfl)) (pv 1) (nomark _)) (pss_one (ps_ret (pv 2))) pss_nil)))
    (pss_one (ps_ret pe_non))), ?_⟩
    obtain ⟨dx, d, kvs, h1, h2, h3, h4, h5⟩ := id hK
    refine ⟨_, rfl, ko, _, dx, _, _, rfl, h1, T.cl_Kept, T.no_Kept_rows, rfl, d, rfl, .inl ⟨_, .of h2⟩, _, rfl, a, _, _, _, rfl, rfl, .inl (.inl (s0 _ _ ea)), atI_nat (j := 0) rfl, ?_⟩
    refine ⟨by decide, fun e he => ?_⟩
    obtain ⟨q1, q2⟩ := q e he
    have se := same_upd he (.lst [])
    refine ⟨valV kvs (Sum.inr w), DGet.k (k := Sum.inr w) (se _ _ h2), ?_⟩
    have key : ∃ r xs, (valV kvs (Sum.inr w)).getD (.ref e) = .ref r ∧ upd H e (.lst []) r = some (.lst xs) ∧ ∀ x ∈ xs, PairOk R H0 (upd H e (.lst [])) x := by
      cases hv : valV kvs (Sum.inr w) with
      | none => exact ⟨e, [], rfl, upd_same, fun x hx => absurd hx (by simp)⟩
      | some v =>
        obtain ⟨_, r, xs, e1, _, e2, _, e3⟩ := (h5 _ (valV_mem hv)).same st se
        exact ⟨r, xs, e1, e2, e3⟩
    obtain ⟨r, xs, er, exs, hxs⟩ := key
    refine ⟨r, xs, er, .inl ⟨SqL.of exs, ?_⟩⟩
    refine RT.for_Itv (K := K) (a := r) (xs := xs) (fun i σ H2 => ∃ y, σ = [some (.ref ko), some (.ref a), y] ∧ H2 = upd H e (.lst [])) ⟨_, rfl, rfl⟩ (fun i σ H2 ⟨_, _, h⟩ => by rw [h]; exact SqL.of exs) ?_ ?_
    · rintro i x σ H2 hi hx ⟨y, rfl, rfl⟩
      obtain ⟨p, v, rv, us', ex, hp, hv, hf, hc, hR⟩ := hxs x (List.mem_of_getElem? hx)
      subst ex
      refine ⟨_, rfl, p, _, _, _, rfl, rfl, .inl (.inl hp), atI_nat (j := 0) rfl, _, rfl, us', _, hv.same (s0.trans se), hf, hc, hI.same (s0.trans se), fun k hk => ⟨_, rfl, ?_⟩⟩
      cases k with
      | true =>
        refine iteT ?_
        have e1 := hk rfl
        rw [e1] at hR
        exact ⟨_, rfl, q2 p v rv hp hR⟩
      | false => exact iteF ⟨_, rfl, rfl⟩
    · rintro σ H2 ⟨y, rfl, rfl⟩
      exact q1
theorem ok_Kept_keep (T : Txt K mg)  : FnOk P w K mg base CX0 1 T.a_Kept_keep T.d_Kept_keep ["self", "tree", "result"] (spKKeep T.c_Kept) := by
  refine T.F_Kept_keep.ok sc_Kept_keep (fun vs H Q E h => ?_) (fun cdv A outer s H vs Q E hr h => ?_)
  · obtain ⟨ko, a, rv, w, us, ts, W, R, H0, rfl, _⟩ := h; rfl
  · obtain ⟨ko, a, rv, w, us, ts, W, R, H0, rfl, st, s0, hK, m5, ea, hI, hw, hf, hc, hR, q⟩ := h
    have hu := hu_of hr
    refine ⟨_, (pss_cons (ps_set (i := 3) sc_Kept_keep.nd rfl (Or.inl rfl) (pe_dsetd (pe_fld (pv 0) rfl) (pe_ix ix_tup (pv 1) pe_int (fun _ _ => rfl)) (pe_lst pa_nil) ⟨rfl, rfl, rfl, rfl⟩))
    (pss_cons (ps_expr (pe_bm PySem.F.plainAttrs_list PySem.F.slot_list_append PySem.F.type_list_append mt_append (pv 3) (pa_cons (pe_tup (pa_cons (pv 1) (pa_cons (pv 2) pa_nil))) pa_nil)))
    (pss_one (ps_delTo (pv 3) (pe_un un_neg (pe_glob (by rfl) T.g_MOST_KEPT (show RelV (V.int 32) (.int 32 T.t_MOST_KEPT) from ⟨_, rfl⟩))))))), ?_⟩
    obtain ⟨dx, d, kvs, h1, h2, h3, h4, h5⟩ := id hK
    have few := few_rows h4 h5
    refine ⟨_, rfl, ko, _, dx, _, _, rfl, h1, T.cl_Kept, T.no_Kept_rows, rfl, d, rfl, .inl ⟨_, .of h2⟩, _, rfl, a, _, _, _, rfl, rfl, .inl (.inl (s0 _ _ ea)), atI_nat (j := 0) rfl, ?_⟩
    refine ⟨by decide, fun e he => ?_⟩
    have se := same_upd he (.lst [])
    have h0e : H0 e = none := s0.free he
    have s1 : Same H0 (upd H e (.lst [])) := s0.trans se
    -- what comes behind: the row r with the pairs xs, in a heap with all that is kept
    have rest : ∀ (r : Addr) (xs : List V) (H1 : Hp), Same H0 H1 → Fr ko H H1 → KeptAt T.c_Kept W R H0 H1 ko → Own H1 ko r → H0 r = none → H1 r = some (.lst xs) → xs.length ≤ 32 → (∀ x ∈ xs, PairOk R H0 H1 x) →
        ∀ p, H1 p = none → ∃ ys, ys = xs ++ [V.ref p] ∧ Q .non (upd (upd (upd H1 p (.tup [V.ref a, rv])) r (.lst ys)) r (.lst (ys.drop (ys.length - 32)))) := by
      intro r xs H1 sH tH kH or h0r er hl hx p hp
      refine ⟨_, rfl, ?_⟩
      have npr : p ≠ r := (ne_of_none er hp).symm
      have sp := same_upd hp (.tup [V.ref a, rv])
      have er1 : upd H1 p (.tup [V.ref a, rv]) r = some (.lst xs) := sp _ _ er
      have t1 : Tu H1 (upd (upd (upd H1 p (.tup [V.ref a, rv])) r (.lst (xs ++ [V.ref p]))) r (.lst ((xs ++ [V.ref p]).drop ((xs ++ [V.ref p]).length - 32)))) := (Tu.of sp).trans ((Tu.lst er1 _).trans (Tu.lst upd_same _))
      have pNew : PairOk R H0 (upd (upd (upd H1 p (.tup [V.ref a, rv])) r (.lst (xs ++ [V.ref p]))) r (.lst ((xs ++ [V.ref p]).drop ((xs ++ [V.ref p]).length - 32)))) (.ref p) :=
        ⟨p, _, _, _, rfl, by rw [upd_ne npr, upd_ne npr, upd_same], hI, hf, hc, st _ _ _ _ (tH.tu.trans t1) hR⟩
      have s2 : Same H0 (upd (upd (upd H1 p (.tup [V.ref a, rv])) r (.lst (xs ++ [V.ref p]))) r (.lst ((xs ++ [V.ref p]).drop ((xs ++ [V.ref p]).length - 32)))) := Kx.Same.own (Kx.Same.own (sH.trans sp) h0r _) h0r _
      obtain ⟨dx', d', kvs', g1, g2, g3, g4, g5⟩ := id kH
      have nd : d' ≠ r := fun z => by subst z; rw [er] at g2; cases g2
      have f1 : Fr ko H1 (upd (upd (upd H1 p (.tup [V.ref a, rv])) r (.lst (xs ++ [V.ref p]))) r (.lst ((xs ++ [V.ref p]).drop ((xs ++ [V.ref p]).length - 32)))) := by
        refine ⟨t1, fun b o e n => ?_, fun b ob => ?_⟩
        · have nb : b ≠ r := fun z => n (z ▸ or)
          rw [upd_ne nb, upd_ne nb]; exact sp _ _ e
        · obtain ⟨C', dx2, d2, z1, z2⟩ := ob
          have y1 := t1 _ _ g1 (fun _ z => by cases z) (fun _ z => by cases z)
          rw [y1] at z1
          cases z1
          refine .inl ⟨_, _, d', g1, ?_⟩
          rcases z2 with z2 | ⟨k2, z2, z3⟩
          · exact .inl z2
          · rw [upd_ne nd, upd_ne nd, sp _ _ g2] at z2
            cases z2
            exact .inr ⟨kvs', g2, z3⟩
      refine q _ s2 (tH.trans f1) ?_
      refine ⟨dx', d', kvs', t1 _ _ g1 (fun _ z => by cases z) (fun _ z => by cases z), ?_, g3, g4, fun kv m => (g5 kv m).step fun r' xs' z0 z1 z2 z3 => ?_⟩
      · rw [upd_ne nd, upd_ne nd]; exact sp _ _ g2
      · by_cases c : r' = r
        · subst c
          refine ⟨_, upd_same, ?_, fun x hx' => ?_⟩
          · rw [List.length_drop]; omega
          · rcases List.mem_append.mp (List.mem_of_mem_drop hx') with z | z
            · exact (hx x z).tu st t1
            · rw [List.mem_singleton.mp z]; exact pNew
        · exact ⟨xs', by rw [upd_ne c, upd_ne c]; exact sp _ _ z1, z2, fun x hx' => (z3 x hx').tu st t1⟩
    refine ⟨kvs, Sum.inr w, se _ _ h2, rfl, small1000 (by omega), fun v hv => ?_, fun hn => ?_⟩
    · have kH := hK.same st se
      obtain ⟨_, r, xs, e1, e0, e2, e3, e4⟩ := (h5 _ (valV_mem hv)).same st se
      subst e1
      refine ⟨_, rfl, .inl ⟨rfl, _, SqL.of e2⟩, _, rfl, _, rfl, (by show 2 ≤ sizeLine; decide), fun p hp => ?_⟩
      obtain ⟨ys, rfl, qq⟩ := rest r xs _ s1 (Fr.of se hK) kH ⟨_, _, d, se _ _ h1, .inr ⟨kvs, se _ _ h2, _, valV_mem hv, rfl⟩⟩ e0 e2 e3 e4 p hp
      exact ⟨r, xs, _, rfl, rfl, same_upd hp _ _ _ e2, small1000 (by omega), _, rfl, _, rfl, _, rfl, r, _, 31, rfl, rfl, upd_same, qq⟩
    · have hd : H0 d = none := h3
      have h2e : upd H e (.lst []) d = some (.dK kvs) := se _ _ h2
      have nde : d ≠ e := fun z => by subst z; rw [h2] at he; cases he
      have t1 : Tu H (upd (upd H e (.lst [])) d (.dK (putK kvs (Sum.inr w) (.ref e)))) := (Tu.of se).trans (Tu.dict h2e _)
      have hn2 : upd (upd H e (.lst [])) d (.dK (putK kvs (Sum.inr w) (.ref e))) e = some (.lst []) := by rw [upd_ne nde.symm, upd_same]
      have kH : KeptAt T.c_Kept W R H0 (upd (upd H e (.lst [])) d (.dK (putK kvs (Sum.inr w) (.ref e)))) ko := by
        refine ⟨dx, d, putK kvs (Sum.inr w) (.ref e), t1 _ _ h1 (fun _ z => by cases z) (fun _ z => by cases z), upd_same, h3, nd_putK _ h4 hn, fun kv m => ?_⟩
        rw [putK_new _ hn] at m
        rcases List.mem_append.mp m with m | m
        · refine (h5 kv m).step fun r xs z0 z1 z2 z3 => ⟨xs, ?_, z2, fun x hx => (z3 x hx).tu st t1⟩
          have nr : r ≠ d := fun z => by subst z; rw [h2] at z1; cases z1
          rw [upd_ne nr]; exact se _ _ z1
        · rw [List.mem_singleton.mp m]
          exact ⟨⟨w, rfl, hw⟩, e, [], rfl, h0e, hn2, by simp, fun x hx => absurd hx (by simp)⟩
      have oE : Own (upd (upd H e (.lst [])) d (.dK (putK kvs (Sum.inr w) (.ref e)))) ko e := ⟨_, dx, d, t1 _ _ h1 (fun _ z => by cases z) (fun _ z => by cases z), .inr ⟨_, upd_same, (Sum.inr w, .ref e), by rw [putK_new _ hn]; exact List.mem_append_right _ (List.mem_singleton.mpr rfl), rfl⟩⟩
      have f1 : Fr ko H (upd (upd H e (.lst [])) d (.dK (putK kvs (Sum.inr w) (.ref e)))) := by
        refine ⟨t1, fun b o eb n => ?_, fun b ob => ?_⟩
        · rw [upd_ne fun z => n ⟨_, _, d, h1, .inl z⟩]; exact se _ _ eb
        · obtain ⟨C', dx2, d2, z1, z2⟩ := ob
          have y1 := t1 _ _ h1 (fun _ z => by cases z) (fun _ z => by cases z)
          rw [y1] at z1
          cases z1
          rcases z2 with z2 | ⟨k2, z2, kv, z3, z4⟩
          · exact .inl ⟨_, _, d, h1, .inl z2⟩
          · rw [upd_same] at z2
            cases z2
            rw [putK_new _ hn] at z3
            rcases List.mem_append.mp z3 with z3 | z3
            · exact .inl ⟨_, _, d, h1, .inr ⟨kvs, h2, kv, z3, z4⟩⟩
            · rw [List.mem_singleton.mp z3] at z4
              cases z4
              exact .inr he
      refine ⟨_, rfl, .inl ⟨rfl, _, SqL.of hn2⟩, _, rfl, _, rfl, (by show 2 ≤ sizeLine; decide), fun p hp => ?_⟩
      obtain ⟨ys, rfl, qq⟩ := rest e [] _ (Kx.Same.own s1 hd _) f1 kH oE h0e hn2 (by simp) (fun x hx => absurd hx (by simp)) p hp
      exact ⟨e, [], _, rfl, rfl, same_upd hp _ _ _ hn2, by decide, _, rfl, _, rfl, _, rfl, e, _, 31, rfl, rfl, upd_same, qq⟩
end
end Kx
namespace Kx
open PySem PySem.Spec PyProof.Rows L2
section
variable {P : Program} {w : World} {K : PySem.W.Frag} {mg : Str → Option Value} {base : Heap}
mutual
/-- a raw value over the words W: no leaf, at most three parts -/
def Rv (W : List Str) : PV → Prop
  | .str _ => False
  | .oth => False
  | .tup [] => False
  | .tup (.oth :: _) => False
  | .tup (.tup _ :: _) => False
  | .tup (.str w :: r) => w ∈ W ∧ r.length ≤ 3 ∧ RvL W r
def RvL (W : List Str) : List PV → Prop
  | [] => True
  | t :: r => Rv W t ∧ RvL W r
end
theorem mem_RvL {W : List Str} : ∀ {l : List PV}, RvL W l → ∀ t ∈ l, Rv W t
  | a :: r, h, t, ht => by
    rcases List.mem_cons.mp ht with rfl | ht
    · exact h.1
    · exact mem_RvL h.2 t ht
mutual
theorem rv_tm {W : List Str} : ∀ {t : PV}, Rv W t → Tm t
  | .str _, h => absurd h id
  | .oth, h => absurd h id
  | .tup [], h => absurd h id
  | .tup (.oth :: _), h => absurd h id
  | .tup (.tup _ :: _), h => absurd h id
  | .tup (.str w :: r), h => rvL_tm h.2.2
theorem rvL_tm {W : List Str} : ∀ {l : List PV}, RvL W l → TmL l
  | [], _ => trivial
  | t :: r, h => ⟨rv_tm h.1, rvL_tm h.2⟩
end
theorem rv_inv {W : List Str} {t : PV} (h : Rv W t) : ∃ w ts, t = .tup (.str w :: ts) ∧ w ∈ W ∧ ts.length ≤ 3 ∧ RvL W ts := by
  cases t with
  | str _ => exact absurd h id
  | oth => exact absurd h id
  | tup l =>
    cases l with
    | nil => exact absurd h id
    | cons x r =>
      cases x with
      | oth => exact absurd h id
      | tup _ => exact absurd h id
      | str w => exact ⟨w, r, rfl, h.1, h.2.1, h.2.2⟩
theorem rvt_inv {W : List Str} {H : Hp} {v : V} {t : PV} (h : Rv W t) (i : Is H v t) : ∃ a w us ts, v = .ref a ∧ t = .tup (.str w :: ts) ∧ H a = some (.tup (.str w :: us)) ∧ IsL H us ts ∧ w ∈ W ∧ ts.length ≤ 3 ∧ RvL W ts := by
  obtain ⟨w, ts, rfl, h1, h2, h3⟩ := rv_inv h
  obtain ⟨a, vs, rfl, ea, hL⟩ := i.tup_inv
  cases hL with
  | cons h0 hL =>
    cases h0.str_inv
    exact ⟨a, w, _, ts, rfl, rfl, ea, hL, h1, h2, h3⟩
theorem cut_from (xs : List V) {k : Nat} (h : k ≤ xs.length) : cutV xs (some (k : Int)) none = xs.drop k := by
  unfold cutV
  rw [HT.sIx_nat, HT.sIx_none, Nat.min_eq_left h, List.take_of_length_le (by rw [List.length_drop]; exact Nat.le_refl _)]
theorem cut_to (xs : List V) {k : Nat} (h : k ≤ xs.length) : cutV xs none (some (k : Int)) = xs.take k := by
  unfold cutV
  rw [HT.sIx_nat, HT.sIx_none, Nat.min_eq_left h]
  rfl
/-- a list of one's own is written -/
theorem Own.wr {C : Addr} {W : List Str} {R : ResT} {H0 H : Hp} {ko l b : Addr} {xs ys : List V} (k : KeptAt C W R H0 H ko) (e : H l = some (.lst xs)) (n : ¬ Own H ko l) (h : Own (upd H l (.lst ys)) ko b) : Own H ko b := by
  obtain ⟨dx, d, kvs, e1, e2, _⟩ := k
  obtain ⟨C', dx', d', f1, q⟩ := h
  have nd : d ≠ l := fun z => n ⟨_, _, d, e1, .inl z.symm⟩
  rw [Tu.lst e ys _ _ e1 (fun _ z => by cases z) (fun _ z => by cases z)] at f1
  cases f1
  refine ⟨_, _, d, e1, ?_⟩
  rcases q with q | ⟨kvs', f2, q⟩
  · exact .inl q
  · rw [upd_ne nd, e2] at f2
    cases f2
    exact .inr ⟨kvs, e2, q⟩
theorem Fr.mine {C : Addr} {W : List Str} {R : ResT} {H0 H H3 : Hp} {ko l : Addr} {xs : List V} (x : Fr ko H H3) (k : KeptAt C W R H0 H3 ko) (hl : H l = none) (e : H3 l = some (.lst xs)) (n : ¬ Own H3 ko l) (ys : List V) : Fr ko H (upd H3 l (.lst ys)) := by
  refine ⟨fun b o eb n1 n2 => ?_, fun b o eb nb => ?_, fun b q => x.own b (q.wr k e n)⟩
  · rw [upd_ne (ne_of_none eb hl)]; exact x.tu b o eb n1 n2
  · rw [upd_ne (ne_of_none eb hl)]; exact x.keep b o eb nb
theorem slice1 {x : V} {vs : List V} : ¬ (HT.sIx (x :: vs).length 0 (some (1 : Int)) = 0 ∧ HT.sIx (x :: vs).length (x :: vs).length none = (x :: vs).length) := by
  intro e
  have h := e.1
  rw [show (1 : Int) = ((1 : Nat) : Int) from rfl, HT.sIx_nat, List.length_cons] at h
  omega
theorem cut1 {x : V} {vs : List V} : cutV (x :: vs) (some (1 : Int)) none = vs := cut_from (k := 1) (x :: vs) (by rw [List.length_cons]; omega)
/-! ### what reckoning over a value asks of the function that is handed on -/
/-- the results of the parts: one for each -/
inductive ResL (R : ResT) (H : Hp) : List V → List PV → Prop
  | nil : ResL R H [] []
  | cons {r : V} {rs : List V} {ts : List PV} {us : List PV} (h : R H r us) (t : ResL R H rs ts) : ResL R H (r :: rs) (.tup us :: ts)
theorem ResL.tu {R : ResT} {H H' : Hp} (st : Stable R) (s : Tu H H') : ∀ {rs : List V} {ts : List PV}, ResL R H rs ts → ResL R H' rs ts
  | _, _, .nil => .nil
  | _, _, .cons h t => .cons (st _ _ _ _ s h) (t.tu st s)
theorem ResL.snoc {R : ResT} {H : Hp} {r : V} {us : List PV} (h : R H r us) : ∀ {rs : List V} {ts : List PV}, ResL R H rs ts → ResL R H (rs ++ [r]) (ts ++ [.tup us])
  | _, _, .nil => .cons h .nil
  | _, _, .cons a t => .cons a (t.snoc h)
theorem ResL.len {R : ResT} {H : Hp} : ∀ {rs : List V} {ts : List PV}, ResL R H rs ts → rs.length = ts.length
  | _, _, .nil => rfl
  | _, _, .cons _ t => by simp [t.len]
/-- what the function does with a word and the parts' results -/
structure Reck (W : List Str) (n : Nat) (g : PV → Prop) (R : ResT) (H0 : Hp) (pre : Hp → Prop) (lsp : Sp) : Prop where
  st : Stable R
  mono : ∀ H H', Tu H H' → pre H → pre H'
  few : W.length ≤ 20
  down : ∀ w ts, g (.tup (.str w :: ts)) → ∀ t ∈ ts, g t
  run : ∀ (w : Str) (ts : List PV) (l : Addr) (rs : List V) (H : Hp) (Q : VK) (E : XK), g (.tup (.str w :: ts)) → Rv W (.tup (.str w :: ts)) → dep (.tup (.str w :: ts)) ≤ n → Same H0 H → pre H → H l = some (.lst rs) → ResL R H rs ts →
    (∀ r H', Same H H' → R H' r (.str w :: ts) → Q r H') → lsp [.str w, .ref l] H Q E
def spFold_ (P : Program) (w : World) (K : PySem.W.Frag) (mg : Str → Option Value) (base : Heap) (C : Addr) (k n : Nat) : Sp := fun vs H Q _ => ∃ (v : V) (t : List PV) (f ko : Addr) (W : List Str) (m : Nat) (g : PV → Prop) (R : ResT) (H0 : Hp) (pre : Hp → Prop) (lsp : Sp), vs = [v, .ref f, .ref ko] ∧
  KLm.LamOk P w K mg base k f 2 pre lsp ∧ Reck W m g R H0 pre lsp ∧ g (.tup t) ∧ pre H ∧ Same H0 H ∧ KeptAt C W R H0 H ko ∧ Is H0 v (.tup t) ∧ Rv W (.tup t) ∧ dep (.tup t) ≤ n ∧ dep (.tup t) ≤ 100 ∧ dep (.tup t) ≤ m ∧
  ∀ r H', Same H0 H' → Fr ko H H' → KeptAt C W R H0 H' ko → R H' r t → Q r H'
theorem ok_folded_ {n k : Nat} (T : Txt K mg) (G_folded_ : FnOk P w K mg base CX0 (n+k+2) T.a_folded_ T.d_folded_ ["tree", "reckon", "kept"] (spFold_ P w K mg base T.c_Kept k n)) (G_Kept_pair_of : FnOk P w K mg base CX0 1 T.a_Kept_pair_of T.d_Kept_pair_of ["self", "tree"] (spKPair T.c_Kept)) (G_Kept_keep : FnOk P w K mg base CX0 1 T.a_Kept_keep T.d_Kept_keep ["self", "tree", "result"] (spKKeep T.c_Kept)) : FnOk P w K mg base CX0 (n+k+3) T.a_folded_ T.d_folded_ ["tree", "reckon", "kept"] (spFold_ P w K mg base T.c_Kept k (n+1)) := by
  refine T.F_folded_.ok sc_folded_ (fun vs H Q E h => ?_) (fun cdv A outer s H vs Q E hr h => ?_)
  · obtain ⟨v, t, f, ko, W, m, g, R, H0, pre, lsp, rfl, _⟩ := h; rfl
  · obtain ⟨v, t, f, ko, W, m, g, R, H0, pre, lsp, rfl, L, Re, hg, now, s0, hK, hI0, hv, hn, h100, hm, q⟩ := h
    have hu := hu_of hr
    have hr_folded_ := hr
    have hk_reckon : k ≤ n + k + 2 := by omega
    have hr_Kept_pair_of : Room 1 _ := hr.mono (by omega)
    have hr_Kept_keep : Room 1 _ := hr.mono (by omega)
    refine ⟨_, (pss_cons (ps_set (i := 3) sc_folded_.nd rfl (Or.inl rfl) (pe_meth (pv 2) T.cl_Kept T.me_Kept_pair_of G_Kept_pair_of hr_Kept_pair_of T.b_Kept_pair_of .nil pass0 (pa_cons (pv 0) pa_nil)))
    (pss_cons (ps_if (pt_cmpR op_notN (pv 3) pe_non (nomark _)) (pss_one (ps_ret (pe_ix ix_tup (pv 3) pe_int (fun _ _ => rfl)))) pss_nil)
    (pss_cons (ps_set (i := 4) sc_folded_.nd rfl (Or.inl rfl) (pe_lst pa_nil))
    (pss_cons (ps_for PassesOwn.never rfl (pi_tup (pe_slice sl_tup (pv 0) (po_some pe_int) po_none)) (pg_name (i := 5) sc_folded_.nd rfl (Or.inl rfl))
    (pss_one (ps_expr (pe_bm PySem.F.plainAttrs_list PySem.F.slot_list_append PySem.F.type_list_append mt_append (pv 4) (pa_cons (pe_call G_folded_ hr_folded_ rfl T.m_folded_ T.F_folded_.kp T.b_folded_ .nil pass0 (pa_cons (pv 5) (pa_cons (pv 1) (pa_cons (pv 2) pa_nil)))) pa_nil)))))
    (pss_cons (ps_set (i := 6) sc_folded_.nd rfl (Or.inl rfl) (KLm.pe_act (i := 1) hr hk_reckon rfl (.inl rfl) (pa_cons (pe_ix ix_tup (pv 0) pe_int (fun _ _ => rfl)) (pa_cons (pv 4) pa_nil))))
    (pss_cons (ps_expr (pe_meth (pv 2) T.cl_Kept T.me_Kept_keep G_Kept_keep hr_Kept_keep T.b_Kept_keep .nil pass0 (pa_cons (pv 0) (pa_cons (pv 6) pa_nil))))
    (pss_one (ps_ret (pv 6))))))))), ?_⟩
    have st := Re.st
    obtain ⟨a, w0, us, ts, rfl, et, ea0, hL, hw, h3, hvL⟩ := rvt_inv hv hI0
    cases et
    obtain ⟨dx, d, kvs, h1, _⟩ := id hK
    refine ⟨_, rfl, ko, dx, _, rfl, h1, rfl, _, rfl, ko, a, w0, us, ts, W, R, H0, rfl, st, s0, hK, ea0, hI0, fun e he => ?_⟩
    have se := same_upd he (.lst [])
    have sK := hK.same st se
    have s0e := s0.trans se
    have f0 := Fr.of se hK
    have hlen := hL.len
    have hd : dep (.tup (.str w0 :: ts)) = 1 + depL (.str w0 :: ts) := rfl
    have hd2 : depL ts ≤ depL (.str w0 :: ts) := by simp only [depL]; omega
    refine ⟨⟨_, rfl, rfl, _, rfl, iteF ?_⟩, fun p v2 r hp hR => ⟨_, rfl, rfl, _, rfl, iteT ?_⟩⟩
    · refine ⟨by decide, fun l hl => ?_⟩
      have sl := same_upd hl (.lst [])
      have ea1 := sl _ _ (s0e _ _ ea0)
      refine ⟨_, rfl, _, rfl, a, _, rfl, .inl (.inl ea1), slice1, fun p1 hp1 => ?_⟩
      rw [cut1]
      have s1 := same_upd hp1 (.tup us)
      have s01 := (s0e.trans sl).trans s1
      have k1 := (sK.same st sl).same st s1
      have fr1 := (f0.trans (Fr.of sl sK)).trans (Fr.of s1 (sK.same st sl))
      have pr1 := Re.mono _ _ fr1.tu now
      have el1 : upd (upd (upd H e (.lst [])) l (.lst [])) p1 (.tup us) l = some (.lst []) := s1 _ _ upd_same
      have nl : ¬ Own (upd (upd (upd H e (.lst [])) l (.lst [])) p1 (.tup us)) ko l := fun o => Own.there sK ((o.back s1 (sK.same st sl)).back sl sK) hl
      have l0 : H0 l = none := s0e.free hl
      have lH : H l = none := se.free hl
      refine ⟨p1, rfl, ⟨_, .inl (.inl upd_same)⟩, ?_⟩
      refine for_tup (K := K) (a := p1) (xs := us) (fun i σ H2 => ∃ y3 y5 y6 rs, σ = [some (.ref a), some (.ref f), some (.ref ko), y3, some (.ref l), y5, y6] ∧ Same H0 H2 ∧ (Tu (upd (upd (upd H e (.lst [])) l (.lst [])) p1 (.tup us)) H2 ∧ Fr ko H H2) ∧ KeptAt T.c_Kept W R H0 H2 ko ∧ ¬ Own H2 ko l ∧ H2 l = some (.lst rs) ∧ ResL R H2 rs (ts.take i)) ?_ ?_ ?_ ?_
      · exact ⟨_, _, _, [], rfl, s01, ⟨.refl _, fr1⟩, k1, nl, el1, .nil⟩
      · exact fun i σ H2 _ ⟨_, _, _, _, _, _, tu, _⟩ => .inl (.inl (tu.1 _ _ upd_same (fun _ z => by cases z) (fun _ z => by cases z)))
      · intro i x σ H2 hx ⟨y3, y5, y6, rs, es, sm, tu, k2, no, el, hrs⟩
        subst es
        obtain ⟨y, ey, hy⟩ := hL.get hx
        have hmem := List.mem_of_getElem? ey
        have dy := depL_mem hmem
        have yv := mem_RvL hvL y hmem
        obtain ⟨wy, tsy, eyt, _⟩ := rv_inv yv
        subst eyt
        refine ⟨_, rfl, .inl ⟨rfl, _, SqL.of el⟩, _, rfl, _, rfl, _, rfl, x, _, f, ko, W, m, g, R, H0, pre, lsp, rfl, L, Re, Re.down _ _ hg _ hmem, Re.mono _ _ tu.2.tu now, sm, k2, hy, yv, by omega, by omega, by omega, fun r H3 s3 fr3 k3 hR => ?_⟩
        have el3 := fr3.keep _ _ el no
        have no3 : ¬ Own H3 ko l := fun o => (fr3.own l o).elim no fun z => by rw [el] at z; cases z
        have t4 := Tu.lst el3 (rs ++ [r])
        have hl3 := hrs.len
        obtain ⟨hi, ey2⟩ := List.getElem?_eq_some_iff.mp ey
        refine ⟨l, rs, r, rfl, rfl, el3, small1000 (by rw [hl3, List.length_take]; omega), _, _, _, rs ++ [r], rfl, Kx.Same.own s3 l0 _, ⟨(tu.1.trans fr3.tu).trans t4, (tu.2.trans fr3).mine k3 lH el3 no3 _⟩, k3.own st el3 no3 _, ?_, upd_same, ?_⟩
        · exact fun o => no3 (o.wr k3 el3 no3)
        · rw [List.take_succ_eq_append_getElem hi, ey2]
          exact (hrs.tu st (fr3.tu.trans t4)).snoc (st _ _ _ _ t4 hR)
      · intro σ H2 ⟨y3, y5, y6, rs, es, sm, tu, k2, no, el, hrs⟩
        subst es
        rw [hlen, List.take_length] at hrs
        have pr2 := Re.mono _ _ tu.2.tu now
        refine ⟨f, 2, pre, lsp, rfl, L, pr2, _, rfl, a, _, _, _, rfl, rfl, .inl (.inl (sm _ _ ea0)), atI_nat (j := 0) rfl, _, rfl, pr2, ?_⟩
        refine Re.run w0 ts l rs H2 _ _ hg hv hm sm pr2 el hrs fun r H3 s3 hR => ?_
        have k3 := k2.same st s3
        have sm3 := sm.trans s3
        obtain ⟨dx2, d2, kvs2, g1, _⟩ := id k3
        refine ⟨_, rfl, ko, dx2, _, rfl, g1, rfl, _, rfl, _, rfl, ko, a, r, w0, us, ts, W, R, H0, rfl, st, sm3, k3, Re.few, ea0, hI0, hw, rv_tm hv, h100, hR, fun H4 s4 fr4 k4 => ?_⟩
        exact ⟨_, rfl, q r H4 s4 ((tu.2.trans (Fr.of s3 k2)).trans fr4) k4 (st _ _ _ _ fr4.tu hR)⟩
    · refine ⟨_, rfl, p, _, _, _, rfl, rfl, .inl (.inl hp), atI_nat (j := 1) rfl, ?_⟩
      exact q r _ s0e f0 sK hR
end
end Kx
namespace Kx
open PySem PySem.Spec PyProof.Rows L2
section
variable {P : Program} {w : World} {K : PySem.W.Frag} {mg : Str → Option Value} {base : Heap}
def lamq (q : Str) : Str := q ++ ".<locals>." ++ "<lambda>"
def spFolded (P : Program) (w : World) (K : PySem.W.Frag) (mg : Str → Option Value) (base : Heap) (k n : Nat) : Sp := fun vs H Q _ => ∃ (v : V) (t : List PV) (f : Addr) (W : List Str) (m : Nat) (g : PV → Prop) (R : ResT) (pre : Hp → Prop) (lsp : Sp), vs = [v, .ref f] ∧
  KLm.LamOk P w K mg base k f 2 pre lsp ∧ Reck W m g R H pre lsp ∧ g (.tup t) ∧ pre H ∧ Is H v (.tup t) ∧ Rv W (.tup t) ∧ dep (.tup t) ≤ n ∧ dep (.tup t) ≤ 100 ∧ dep (.tup t) ≤ m ∧
  ∀ r H', Same H H' → R H' r t → Q r H'
theorem ok_folded {n k k0 : Nat} (T : Txt K mg) (G_folded_ : FnOk P w K mg base CX0 (k+2) T.a_folded_ T.d_folded_ ["tree", "reckon", "kept"] (spFold_ P w K mg base T.c_Kept k0 n)) (G_Kept_init : FnOk P w K mg base CX0 1 T.a_Kept_init T.d_Kept_init ["self"] (spKInit T.c_Kept)) : FnOk P w K mg base CX0 (k+3) T.a_folded T.d_folded ["tree", "reckon"] (spFolded P w K mg base k0 n) := by
  refine T.F_folded.ok sc_folded (fun vs H Q E h => ?_) (fun cdv A outer s H vs Q E hr h => ?_)
  · obtain ⟨v, t, f, W, m, g, R, pre, lsp, rfl, _⟩ := h; rfl
  · obtain ⟨v, t, f, W, m, g, R, pre, lsp, rfl, L, Re, hg, now, hI, hv, hn, h100, hm, q⟩ := h
    have hr_folded_ := hr
    have hr_Kept_init : Room 2 _ := hr.mono (by omega)
    refine ⟨_, (pss_one (ps_ret (pe_call G_folded_ hr_folded_ rfl T.m_folded_ T.F_folded_.kp T.b_folded_ .nil pass0 (pa_cons (pv 0) (pa_cons (pv 1) (pa_cons (pe_make0 T.mk_Kept G_Kept_init hr_Kept_init rfl T.mg_Kept T.b_Kept_init .nil pass0) pa_nil)))))), ?_⟩
    refine ⟨_, rfl, _, rfl, fun x dx hx hdx ndx => ?_⟩
    refine ⟨x, dx, rfl, upd_same, fun d hd => ⟨rfl, ?_⟩⟩
    have z1 : Same H (upd H dx (.own x)) := same_upd hdx _
    have z2 : Same H (upd (upd H dx (.own x)) x (.ins T.c_Kept dx [])) := Kx.Same.own z1 hx _
    have hd0 : H d = none := z2.free hd
    have z3 : Same H (upd (upd (upd H dx (.own x)) x (.ins T.c_Kept dx [])) d (.dK [])) := z2.trans (same_upd hd _)
    have z4 : Same H (upd (upd (upd (upd H dx (.own x)) x (.ins T.c_Kept dx [])) d (.dK [])) x (.ins T.c_Kept dx [("rows", .ref d)])) := Kx.Same.own z3 hx _
    have ndx2 : d ≠ x := fun e => by subst e; rw [upd_same] at hd; cases hd
    have kH : KeptAt T.c_Kept W R H (upd (upd (upd (upd H dx (.own x)) x (.ins T.c_Kept dx [])) d (.dK [])) x (.ins T.c_Kept dx [("rows", .ref d)])) x :=
      ⟨dx, d, [], upd_same, by rw [upd_ne ndx2, upd_same], hd0, List.nodup_nil, fun kv m => absurd m (by simp)⟩
    exact ⟨v, t, f, x, W, m, g, R, H, pre, lsp, rfl, L, Re, hg, Re.mono _ _ (.of z4) now, z4, kH, hI, hv, hn, h100, hm, fun r H' s' _ _ hR => q r H' s' hR⟩
/-! ### a def that makes a lambda: its code object is known -/
structure FunC (K : PySem.W.Frag) (x qual : Str) (st : Stmt) (f : Addr) (fd : FuncData) (c : Addr) : Prop where
  ex : ∃ (oc : Value) (od : Option Addr) (kV doc pm : Value) (an : Option Addr) (ct : Value) (osl : Array (Option Value)),
    fd = PySem.W.fnOf x qual (defArgs st) (defBody st) (defScope st) .none kV doc pm an (.ref c) ct ∧ K.lookup f = some ⟨oc, od, .func fd, osl⟩ ∧ PySem.W.codeIn K (.ref c) qual = true
theorem FunC.ok {x qual : Str} {st : Stmt} {f c : Addr} {fd : FuncData} {N ps : List Str} {k : Nat} {sp : Sp} (F : FunC K x qual st f fd c) (S : FnScope N ps (defScope st)) (len : ∀ vs H Q E, sp vs H Q E → vs.length = ps.length)
    (hbody : ∀ (A : Around) (outer : List Env) (s : Shared) (H : Hp) (vs : List V) (Q : VK) (E : XK), Room k (A.deeper (envOfC qual (defScope st) s.heap.objs.size f (.ref c))) → sp vs H Q E →
      ∃ t, PSs (cxOf CX0 P w K mg base N qual (defScope st) f (.ref c) A outer s H E).nox (defBody st) t ∧ t { nx := fun _ H' => Q .non H', rt := Q } (start N vs) H) : FnOk P w K mg base CX0 (k + 1) f fd ps sp := by
  obtain ⟨oc, od, kV, doc, pm, an, ct, osl, e, lk, hcd⟩ := F.ex
  subst e
  refine fn_of lk hcd S len fun A outer s H vs Q E hr hsp => ?_
  obtain ⟨t, h, q⟩ := hbody A outer s H vs Q E hr hsp
  exact ⟨t, h.nox, q⟩
/-! ### size -/
mutual
def vsz : PV → Nat
  | .str _ => 1
  | .oth => 1
  | .tup [] => 1
  | .tup (_ :: r) => 1 + vszL r
def vszL : List PV → Nat
  | [] => 0
  | t :: r => vsz t + vszL r
end
def RSize : ResT := fun _ v ts => v = .int (vsz (.tup ts) : Int)
theorem RSize.st : Stable RSize := fun _ _ _ _ _ h => h
theorem size_sum {H : Hp} : ∀ {rs : List V} {ts : List PV}, ResL RSize H rs ts → ∃ ns : List Int, rs = ns.map V.int ∧ ns.sum = (vszL ts : Int)
  | _, _, .nil => ⟨[], rfl, rfl⟩
  | _, _, .cons (us := us) h t => by
    obtain ⟨ns, e, q⟩ := size_sum t
    refine ⟨(vsz (.tup us) : Int) :: ns, by rw [List.map_cons, ← e]; rw [show _ = _ from h], ?_⟩
    rw [List.sum_cons, q]
    simp only [vszL]
    omega
def spSize (TT : List (Addr × Str)) (n : Nat) : Sp := fun vs H Q _ => ∃ (v : V) (t : List PV) (W : List Str), vs = [v] ∧ W.length ≤ 20 ∧ LamX.Tabs TT H ∧ Is H v (.tup t) ∧ Rv W (.tup t) ∧ dep (.tup t) ≤ n ∧ dep (.tup t) ≤ 100 ∧
  ∀ H', LamX.ExtN H H' → LamX.Tabs TT H' → Q (.int (vsz (.tup t) : Int)) H'
def spLamSize : Sp := fun vs H Q _ => ∃ (w : Str) (l : Addr) (ns : List Int), vs = [.str w, .ref l] ∧ H l = some (.lst (ns.map V.int)) ∧ Q (.int (1 + ns.sum)) H
mutual
theorem Is.extN {H H' : Hp} (x : LamX.ExtN H H') : ∀ {v : V} {t : PV}, Is H v t → Is H' v t
  | _, _, .str z k => .str z k
  | _, _, .non => .non
  | _, _, .bl b => .bl b
  | _, _, .int i => .int i
  | _, _, .lst e => .lst (e.elim fun xs e => ⟨xs, x _ _ e fun _ z => by cases z⟩)
  | _, _, .dict e => .dict (x _ _ e fun _ z => by cases z)
  | _, _, .tup e h => .tup (x _ _ e fun _ z => by cases z) (IsL.extN x h)
theorem IsL.extN {H H' : Hp} (x : LamX.ExtN H H') : ∀ {v : List V} {t : List PV}, IsL H v t → IsL H' v t
  | _, _, .nil => .nil
  | _, _, .cons h r => .cons (Is.extN x h) (IsL.extN x r)
end
theorem ok_size {n k : Nat} {c0 P0 : Addr} {TT : List (Addr × Str)} (T : Txt K mg) (FC : FunC K "size" "size" s_size T.a_size T.d_size c0) (hTB : LamX.TabB base mg c0 P0) (hin : (P0, lamq "size") ∈ TT) (hun : ∀ p ∈ TT, p.1 = P0 → p.2 = lamq "size")
    (G_folded : FnOk P w K mg base CX0 (k+1) T.a_folded T.d_folded ["tree", "reckon"] (spFolded P w K mg base 1 n)) : FnOk P w K mg base CX0 (k+2) T.a_size T.d_size ["value"] (spSize TT n) := by
  refine FC.ok sc_size (fun vs H Q E h => ?_) (fun A outer s H vs Q E hr h => ?_)
  · obtain ⟨v, t, W, rfl, _⟩ := h; rfl
  · obtain ⟨v, t, W, rfl, w20, hT, hI, hv, hn, h100, q⟩ := h
    have hr_folded := hr
    refine ⟨_, (pss_one (ps_ret (KLm.pe_hand (T := TT) (fr := []) (js := []) G_folded hr_folded rfl T.m_folded T.F_folded.kp T.b_folded hTB rfl hin hun rfl (by show KLm.capB (defScope s_size) _ _ = true; decide +kernel) rfl (fun _ => rfl) (pv 0)))), ?_⟩
    refine ⟨_, rfl, hT, [], rfl, fun f c' pm ctv caps H2 H3 x1 T2 x2 f1 C cfree at3 => ?_⟩
    have i3 : Is H3 v (.tup t) := (hI.extN x1).same x2
    refine ⟨v, t, f, W, n, fun _ => True, RSize, _, spLamSize, rfl, ?_, ⟨RSize.st, fun H H' t p => p.on t, w20, fun _ _ _ _ _ => trivial, fun w0 ts l rs H Q E _ _ _ _ p el hrs q => ?_⟩, trivial, at3, i3, hv, hn, h100, hn, fun r H4 s4 hR => ⟨at3.on (Tu.of s4), fun H5 h5 => ?_⟩⟩
    · refine KLm.lam_ok (k := 0) (N := ["word", "sizes"]) (ps := ["word", "sizes"]) (fr := []) (ws := []) (sp := spLamSize) (NdefX.nscope_by (by decide +kernel)) (fun us hl => match us, hl with | [_, _], _ => rfl) C
        (fun vs H Q E ⟨_, _, _, e, _⟩ => by rw [e]; rfl) fun A outer s H vs Q E hr p hsp => ?_
      obtain ⟨w0, l, ns, rfl, el, q⟩ := hsp
      refine ⟨_, pe_op op_add pe_int (pe_callB (cr_sum rfl) (by rfl) T.z_sum (by decide +kernel) (pa_cons (pv 1) pa_nil)), ?_⟩
      refine ⟨_, rfl, l, ns, rfl, SqL.of (KLm.hid_see p.cel el fun x z => KLm.pin_lst z.symm), _, _, rfl, rfl, ?_⟩
      intro _
      show Q _ (KLm.unh caps H (KLm.hid caps H))
      rw [KLm.unh_hid]
      exact q
    · obtain ⟨ns, e, sum⟩ := size_sum hrs
      refine ⟨w0, l, ns, rfl, by rw [el, e], ?_⟩
      rw [sum]
      refine q _ _ (.refl _) ?_
      show V.int _ = V.int _
      congr 1
    · obtain ⟨y1, y2⟩ := KLm.ext_back x1 x2 s4 h5
      rw [show r = _ from hR]
      exact q H5 y1 (T2.ext y2)
end
end Kx
namespace Kx
open PySem PySem.Spec PyProof.Rows L2
section
variable {P : Program} {w : World} {K : PySem.W.Frag} {mg : Str → Option Value} {base : Heap}
/-- all but the lists at d and c stands; those are lists still -/
structure Ex (d c : Addr) (H H' : Hp) : Prop where
  but : ∀ b o, b ≠ d → b ≠ c → H b = some o → H' b = some o
  l1 : (∃ xs, H d = some (.lst xs)) → ∃ xs, H' d = some (.lst xs)
  l2 : (∃ xs, H c = some (.lst xs)) → ∃ xs, H' c = some (.lst xs)
theorem Ex.refl (d c : Addr) (H : Hp) : Ex d c H H := ⟨fun _ _ _ _ h => h, id, id⟩
theorem Ex.trans {d c : Addr} {H H1 H2 : Hp} (a : Ex d c H H1) (b : Ex d c H1 H2) : Ex d c H H2 := ⟨fun x o n1 n2 h => b.but x o n1 n2 (a.but x o n1 n2 h), fun h => b.l1 (a.l1 h), fun h => b.l2 (a.l2 h)⟩
theorem Ex.of {d c : Addr} {H H' : Hp} (s : Same H H') : Ex d c H H' := ⟨fun b o _ _ h => s b o h, fun ⟨xs, h⟩ => ⟨xs, s _ _ h⟩, fun ⟨xs, h⟩ => ⟨xs, s _ _ h⟩⟩
theorem Ex.set1 {d c : Addr} {H : Hp} (xs : List V) : Ex d c H (upd H d (.lst xs)) := ⟨fun b o n _ h => by rw [upd_ne n]; exact h, fun _ => ⟨xs, upd_same⟩, fun ⟨ys, h⟩ => by
  by_cases q : c = d
  · subst q; exact ⟨xs, upd_same⟩
  · exact ⟨ys, by rw [upd_ne q]; exact h⟩⟩
theorem Ex.set2 {d c : Addr} {H : Hp} (xs : List V) : Ex d c H (upd H c (.lst xs)) := ⟨fun b o _ n h => by rw [upd_ne n]; exact h, fun ⟨ys, h⟩ => (by
  by_cases q : d = c
  · subst q; exact ⟨xs, upd_same⟩
  · exact ⟨ys, by rw [upd_ne q]; exact h⟩), fun _ => ⟨xs, upd_same⟩⟩
/-- the state of the draws: a list of the cells and the seed -/
def Dr (H : Hp) (d c : Addr) : Prop := ∃ (ns : List Int) (m : Int), H d = some (.lst [.ref c, .int m]) ∧ H c = some (.lst (ns.map V.int)) ∧ c ≠ d ∧ (∀ n ∈ ns, 0 ≤ n) ∧ 0 ≤ m ∧ m < 2147483648 ∧ ns.length ≤ 63
theorem Dr.lst {H : Hp} {d c : Addr} (h : Dr H d c) : (∃ xs, H d = some (.lst xs)) ∧ ∃ xs, H c = some (.lst xs) := by
  obtain ⟨ns, m, e, e2, _⟩ := h
  exact ⟨⟨_, e⟩, _, e2⟩
theorem Dr.same {H H' : Hp} {d c : Addr} (s : Same H H') (h : Dr H d c) : Dr H' d c := by
  obtain ⟨ns, m, e, e2, r⟩ := h
  exact ⟨ns, m, s _ _ e, s _ _ e2, r⟩
theorem Dr.own {H : Hp} {d c l : Addr} {o : HO} (h : Dr H d c) (n1 : l ≠ d) (n2 : l ≠ c) : Dr (upd H l o) d c := by
  obtain ⟨ns, m, e, e2, r⟩ := h
  exact ⟨ns, m, by rw [upd_ne n1.symm]; exact e, by rw [upd_ne n2.symm]; exact e2, r⟩
theorem Dr.free {H : Hp} {d c l : Addr} (h : Dr H d c) (n : H l = none) : l ≠ d ∧ l ≠ c := by
  obtain ⟨ns, m, e, e2, r⟩ := h
  exact ⟨(ne_of_none e n).symm, (ne_of_none e2 n).symm⟩
/-- what is no list stands -/
theorem Ex.keep {d c b : Addr} {H H' : Hp} {o : HO} (x : Ex d c H H') (h : Dr H d c) (e : H b = some o) (n : ∀ xs, o ≠ .lst xs) : H' b = some o := by
  obtain ⟨⟨xs, h1⟩, ys, h2⟩ := h.lst
  refine x.but b o (fun q => ?_) (fun q => ?_) e
  · subst q; rw [h1] at e; exact n xs (Option.some.inj e).symm
  · subst q; rw [h2] at e; exact n ys (Option.some.inj e).symm
mutual
theorem Is.ex {d c : Addr} {H H' : Hp} (x : Ex d c H H') (h : Dr H d c) : ∀ {v : V} {t : PV}, Is H v t → Is H' v t
  | _, _, .str z k => .str z k
  | _, _, .non => .non
  | _, _, .bl b => .bl b
  | _, _, .int i => .int i
  | _, _, .lst (a := a) e => by
    by_cases q : a = d
    · subst q; exact .lst (x.l1 e)
    · by_cases q2 : a = c
      · subst q2; exact .lst (x.l2 e)
      · obtain ⟨xs, e⟩ := e; exact .lst ⟨xs, x.but _ _ q q2 e⟩
  | _, _, .dict e => .dict (x.keep h e fun xs q => by cases q)
  | _, _, .tup e r => .tup (x.keep h e fun xs q => by cases q) (IsL.ex x h r)
theorem IsL.ex {d c : Addr} {H H' : Hp} (x : Ex d c H H') (h : Dr H d c) : ∀ {v : List V} {t : List PV}, IsL H v t → IsL H' v t
  | _, _, .nil => .nil
  | _, _, .cons a r => .cons (Is.ex x h a) (IsL.ex x h r)
end
def spState (K : PySem.W.Frag) : Sp := fun vs H Q _ => ∃ (a : Addr) (ns : List Int), vs = [.ref a] ∧ SqL K H a (ns.map V.int) ∧ ns.length ≤ 63 ∧ ∀ d c H', Same H H' → Dr H' d c → Q (.ref d) H'
def spDraw : Sp := fun vs H Q _ => ∃ (d c : Addr) (n : Int), vs = [.ref d, .int n] ∧ Dr H d c ∧ 1 ≤ n ∧ n ≤ 1000 ∧ ∀ (r : Int) H', 0 ≤ r → r < n → Ex d c H H' → Dr H' d c → Q (.int r) H'
def spPick (K : PySem.W.Frag) : Sp := fun vs H Q _ => ∃ (d c p : Addr) (xs : List V), vs = [.ref d, .ref p] ∧ Dr H d c ∧ (H p = some (.lst xs) ∨ SqT K H p xs) ∧ p ≠ d ∧ p ≠ c ∧ 1 ≤ xs.length ∧ xs.length ≤ 1000 ∧ ∀ (x : V) H', x ∈ xs → Ex d c H H' → Dr H' d c → Q x H'
theorem fmb (a : Int) {b : Int} (hb : 0 < b) : 0 ≤ a.fmod b ∧ a.fmod b < b := ⟨Int.fmod_nonneg_of_pos a hb, Int.fmod_lt_of_pos a hb⟩
theorem at_int {ns : List Int} {i : Int} (h0 : 0 ≤ i) (h : i < ns.length) : ∃ x : Int, atI (ns.map V.int) i = some (.int x) := by
  have hk : i.toNat < ns.length := by omega
  have q : atI (ns.map V.int) ((i.toNat : Nat) : Int) = some (.int ns[i.toNat]) := atI_nat (by rw [List.getElem?_map, List.getElem?_eq_getElem hk] <;> rfl)
  rw [show ((i.toNat : Nat) : Int) = i by omega] at q
  exact ⟨_, q⟩
theorem ok_law_state (T : Txt K mg)  : FnOk P w K mg base CX0 1 T.a_law_state T.d_law_state ["script"] (spState K) := by
  refine T.F_law_state.ok sc_law_state (fun vs H Q E h => ?_) (fun cdv A outer s H vs Q E hr h => ?_)
  · obtain ⟨a, ns, rfl, _⟩ := h; rfl
  · obtain ⟨a, ns, rfl, hS, hl, q⟩ := h
    refine ⟨_, (pss_cons (ps_set (i := 1) sc_law_state.nd rfl (Or.inl rfl) pe_int)
    (pss_cons (ps_for PassesOwn.never rfl (pi_list (pv 0)) (pg_name (i := 2) sc_law_state.nd rfl (Or.inl rfl))
    (pss_one (ps_set (i := 1) sc_law_state.nd rfl (Or.inl rfl) (pe_op op_modN (pe_callTy call_int1 (by rfl) T.z_int (by decide +kernel) (pa_cons (pe_op op_add (pe_op op_mul (pv 1) pe_int) (pv 2)) pa_nil)) pe_int))))
    (pss_one (ps_ret (pe_lst (pa_cons (pe_lc (own := [("cell", 2)]) (g := (gName 2)) (tt := tYes) rfl sc_law_state.nd (pi_list (pv 0)) (blkOk_by (own := [("cell", 2)]) (N := ["script", "seed", "cell"]) (sc := defScope s_law_state) (by decide +kernel)) (fun _ _ _ _ _ => (pg_name (i := 2) sc_law_state.nd rfl (Or.inl rfl))) (fun _ _ _ _ _ => pts_nil) (fun _ _ _ _ _ => (pe_callB call_abs (by rfl) T.z_abs (by decide +kernel) (pa_cons (pe_callTy call_int1 (by rfl) T.z_int (by decide +kernel) (pa_cons (pv 2) pa_nil)) pa_nil)))) (pa_cons (pe_op op_add (pv 1) pe_int) pa_nil))))))), ?_⟩
    refine ⟨_, rfl, a, rfl, ⟨_, hS⟩, for_list (K := K) (a := a) (xs := ns.map V.int) (fun i σ H2 => ∃ m y, σ = [some (.ref a), some (.int m), y] ∧ H2 = H ∧ 0 ≤ m ∧ m < 1000003) ⟨7, none, rfl, rfl, by omega, by omega⟩ (fun i σ H2 _ ⟨_, _, _, e, _⟩ => by rw [e]; exact hS) ?_ ?_⟩
    · rintro i x σ H2 hx ⟨m, y, rfl, rfl, m0, m1⟩
      obtain ⟨n, _, rfl⟩ := List.mem_map.mp (List.mem_of_getElem? hx)
      obtain ⟨b0, b1⟩ := fmb (m * 31 + n) (b := 1000003) (by decide)
      exact ⟨_, rfl, _, _, rfl, rfl, .inl ⟨by omega, by omega⟩, _, rfl, _, _, rfl, rfl, .inl ⟨_, rfl, _, _, rfl, rfl, (by show (1000003 : Int) ≠ 0; decide), _, _, rfl, rfl, b0, b1⟩⟩
    · rintro σ H2 ⟨m, y, rfl, rfl, m0, m1⟩
      refine ⟨_, rfl, a, rfl, ⟨_, hS⟩, fun D hD => ?_⟩
      refine lc_list (K := K) (a := a) (xs := ns.map V.int) (fun i H3 => ∃ ms : List Int, H3 = upd H2 D (.lst (ms.map V.int)) ∧ ms.length = i ∧ ∀ n ∈ ms, 0 ≤ n) ⟨[], rfl, rfl, fun _ h => by cases h⟩ (fun i H3 _ ⟨ms, e, _⟩ => ?_) ?_ ?_
      · rw [e]; exact (same_upd hD _).seq hS
      · rintro i x H3 hx ⟨ms, rfl, hlen, hpos⟩
        have hi := (List.getElem?_eq_some_iff.mp hx).1
        rw [List.length_map] at hi
        obtain ⟨n, _, rfl⟩ := List.mem_map.mp (List.mem_of_getElem? hx)
        refine ⟨rfl, yes_if ⟨_, rfl, .inl ⟨_, rfl, _, rfl, ms.map V.int, upd_same, ?_, ms ++ [if n < 0 then -n else n], ?_, ?_, ?_⟩⟩⟩
        · rw [List.length_map]; exact small1000 (by omega)
        · rw [upd_upd, List.map_append]; rfl
        · rw [List.length_append, hlen]; rfl
        · intro z hz
          rcases List.mem_append.mp hz with hz | hz
          · exact hpos z hz
          · rw [List.mem_singleton.mp hz]; split <;> omega
      · rintro H3 ⟨ms, rfl, hlen, hpos⟩
        rw [List.length_map] at hlen
        refine ⟨_, rfl, _, _, rfl, rfl, (by show 2 ≤ sizeLine; decide), fun d hd => ?_⟩
        have n1 : D ≠ d := ne_of_none upd_same hd
        exact q d D _ ((same_upd hD _).trans (same_upd hd _)) ⟨ms, m + 1, upd_same, by rw [upd_ne n1, upd_same], n1, hpos, by omega, by omega, by omega⟩
theorem ok_law_draw (T : Txt K mg)  : FnOk P w K mg base CX0 1 T.a_law_draw T.d_law_draw ["state", "many"] spDraw := by
  refine T.F_law_draw.ok sc_law_draw (fun vs H Q E h => ?_) (fun cdv A outer s H vs Q E hr h => ?_)
  · obtain ⟨d, c, n, rfl, _⟩ := h; rfl
  · obtain ⟨d, c, n, rfl, hD, h1, h2, q⟩ := h
    have nz : n ≠ 0 := by omega
    refine ⟨_, (pss_cons (ps_set (i := 2) sc_law_draw.nd rfl (Or.inl rfl) (pe_ix ix_list (pv 0) pe_int (fun _ _ => rfl)))
    (Evl.pss_cut (ps_while PassesOwn.never (PW.pt (pw_and (pt_cmpR op_gt (pe_callB call_len_seq (by rfl) T.z_len (by decide +kernel) (pa_cons (pv 2) pa_nil)) pe_int (nomark _)) (pw_and1 (pt_cmpR op_eq (pe_ix ix_list (pv 2) pe_int (fun _ _ => rfl)) pe_int (nomark _)))))
    (pss_one (ps_expr (pe_bm PySem.F.plainAttrs_list PySem.F.slot_list_pop PySem.F.type_list_pop mt_popAt (pv 2) (pa_cons pe_int pa_nil)))))
    (pss_cons (ps_if (pt_cmpR op_gt (pe_callB call_len_seq (by rfl) T.z_len (by decide +kernel) (pa_cons (pv 2) pa_nil)) pe_int (nomark _)) (pss_cons (ps_set (i := 3) sc_law_draw.nd rfl (Or.inl rfl) (pe_ix ix_list (pv 2) pe_int (fun _ _ => rfl)))
    (pss_cons (ps_asg (pe_op op_fdivN (pv 3) (pv 1)) (pg_sub (pv 2) pe_int set_list))
    (pss_one (ps_ret (pe_op op_modN (pe_callTy call_int1 (by rfl) T.z_int (by decide +kernel) (pa_cons (pv 3) pa_nil)) (pv 1)))))) pss_nil)
    (pss_cons (ps_set (i := 4) sc_law_draw.nd rfl (Or.inl rfl) (pe_op op_modN (pe_callTy call_int1 (by rfl) T.z_int (by decide +kernel) (pa_cons (pe_op op_add (pe_op op_mul (pe_ix ix_list (pv 0) pe_int (fun _ _ => rfl)) pe_int) pe_int) pa_nil)) pe_int))
    (pss_cons (ps_asg (pv 4) (pg_sub (pv 0) pe_int set_list))
    (pss_one (ps_ret (pe_op op_modN (pe_callTy call_int1 (by rfl) T.z_int (by decide +kernel) (pa_cons (pe_op op_fdivN (pv 4) pe_int) pa_nil)) (pv 1))))))))), ?_⟩
    obtain ⟨ns, m, e, e2, hn, hpos, m0, m1, hl⟩ := id hD
    refine ⟨_, rfl, d, _, _, _, rfl, rfl, SqL.of e, rfl, ?_⟩
    refine ⟨fun σ H2 => ∃ ms : List Int, σ = [some (.ref d), some (.int n), some (.ref c), none, none] ∧ H2 d = some (.lst [.ref c, .int m]) ∧ H2 c = some (.lst (ms.map V.int)) ∧ ms.length ≤ 63 ∧ (∀ z ∈ ms, 0 ≤ z) ∧ Ex d c H H2, ?_, ?_⟩
    · refine ⟨fun k σ H2 => ∃ ms : List Int, σ = [some (.ref d), some (.int n), some (.ref c), none, none] ∧ H2 d = some (.lst [.ref c, .int m]) ∧ H2 c = some (.lst (ms.map V.int)) ∧ ms.length = k ∧ k ≤ 63 ∧ (∀ z ∈ ms, 0 ≤ z) ∧ Ex d c H H2, ⟨ns.length, ns, rfl, e, e2, rfl, hl, hpos, .refl _ _ _⟩, ?_⟩
      rintro k σ H2 ⟨ms, rfl, f1, f2, hk, k63, hp, hx⟩
      refine ⟨_, rfl, c, _, rfl, .inl (SqL.of f2), _, _, rfl, rfl, _, rfl, ite2 (fun cz => ?_) (fun _ => iteF ⟨ms, rfl, f1, f2, by omega, hp, hx⟩)⟩
      cases ms with
      | nil => cases cz
      | cons x ms =>
      refine ⟨_, rfl, c, _, _, V.int x, rfl, rfl, SqL.of f2, atI_nat (j := 0) rfl, rfl, _, rfl, ite2 (fun c0 => ?_) (fun _ => ⟨_, rfl, f1, f2, by omega, hp, hx⟩)⟩
      refine ⟨fun σ' H' => ∃ ms' : List Int, σ' = [some (.ref d), some (.int n), some (.ref c), none, none] ∧ H' d = some (.lst [.ref c, .int m]) ∧ H' c = some (.lst (ms'.map V.int)) ∧ ms'.length < k ∧ k ≤ 63 ∧ (∀ z ∈ ms', 0 ≤ z) ∧ Ex d c H H', fun σ' H' ⟨ms', r1, r2, r3, r4, r5, r6, r7⟩ => ⟨ms'.length, r4, ms', r1, r2, r3, rfl, by omega, r6, r7⟩, ?_⟩
      have z0 : ixN ((x :: ms).map V.int).length 0 = some 0 := Evl.ixN_nat (j := 0) (by rw [List.length_map, List.length_cons]; omega)
      refine ⟨_, rfl, .inl ⟨rfl, _, SqL.of f2⟩, c, _, 0, 0, _, rfl, rfl, f2, by decide, by decide, (ixN_seq z0).1, rfl, ms, rfl, by rw [upd_ne hn.symm]; exact f1, by rw [upd_same]; rfl, by rw [List.length_cons] at hk; omega, k63, fun z hz => hp z (List.mem_cons_of_mem _ hz), hx.trans (.set2 _)⟩
    · rintro σ H2 ⟨ms, rfl, f1, f2, k63, hp, hx⟩
      refine ⟨_, rfl, c, _, rfl, .inl (SqL.of f2), _, _, rfl, rfl, _, rfl, ite2 (fun cz => ?_) (fun _ => ?_)⟩
      · cases ms with
        | nil => cases cz
        | cons x ms =>
        have x0 := hp x (List.mem_cons_self ..)
        have z0 : ixN ((x :: ms).map V.int).length 0 = some 0 := Evl.ixN_nat (j := 0) (by rw [List.length_map, List.length_cons]; omega)
        refine ⟨_, rfl, c, _, _, V.int x, rfl, rfl, SqL.of f2, atI_nat (j := 0) rfl, _, rfl, _, rfl, _, _, rfl, rfl, ⟨nz, by omega⟩, _, rfl, c, _, _, 0, rfl, rfl, f2, z0, _, rfl, .inl ⟨_, rfl, _, rfl, _, _, rfl, rfl, nz, ?_⟩⟩
        obtain ⟨b0, b1⟩ := fmb x (b := n) (by omega)
        refine q _ _ b0 b1 (hx.trans (.set2 _)) ⟨x.fdiv n :: ms, m, by rw [upd_ne hn.symm]; exact f1, upd_same, hn, fun z hz => ?_, m0, m1, k63⟩
        rcases List.mem_cons.mp hz with rfl | hz
        · exact Int.fdiv_nonneg x0 (by omega)
        · exact hp z (List.mem_cons_of_mem _ hz)
      · obtain ⟨b0, b1⟩ := fmb (m * 48271 + 12345) (b := 2147483647) (by decide)
        refine ⟨_, rfl, d, _, _, _, rfl, rfl, SqL.of f1, rfl, _, _, rfl, rfl, .inl ⟨by omega, by omega⟩, _, _, rfl, rfl, .inl ⟨_, rfl, _, _, rfl, rfl, (by show (2147483647 : Int) ≠ 0; decide), _, rfl, _, rfl, d, _, _, 1, rfl, rfl, f1, rfl, ?_⟩⟩
        refine ⟨_, rfl, _, _, rfl, rfl, ⟨by decide, by decide⟩, .inl ⟨_, rfl, _, rfl, _, _, rfl, rfl, nz, ?_⟩⟩
        obtain ⟨c0, c1⟩ := fmb (((m * 48271 + 12345).fmod 2147483647).fdiv 64) (b := n) (by omega)
        exact q _ _ c0 c1 (hx.trans (.set1 _)) ⟨ms, _, upd_same, by rw [upd_ne hn]; exact f2, hn, hp, b0, by omega, k63⟩
theorem ok_law_pick (T : Txt K mg) (G_law_draw : FnOk P w K mg base CX0 1 T.a_law_draw T.d_law_draw ["state", "many"] spDraw) : FnOk P w K mg base CX0 2 T.a_law_pick T.d_law_pick ["state", "row"] (spPick K) := by
  refine T.F_law_pick.ok sc_law_pick (fun vs H Q E h => ?_) (fun cdv A outer s H vs Q E hr h => ?_)
  · obtain ⟨d, c, p, xs, rfl, _⟩ := h; rfl
  · obtain ⟨d, c, p, xs, rfl, hD, hP, hn, hn2, h1, h2, q⟩ := h
    have hr_law_draw := hr
    refine ⟨_, (pss_one (ps_ret (pe_ix ix_seq (pv 1) (pe_call G_law_draw hr_law_draw rfl T.m_law_draw T.F_law_draw.kp T.b_law_draw .nil pass0 (pa_cons (pv 0) (pa_cons (pe_callB call_len_seq (by rfl) T.z_len (by decide +kernel) (pa_cons (pv 1) pa_nil)) pa_nil))) (fun _ _ => rfl)))), ?_⟩
    have seqs : ∀ H', Ex d c H H' → H' p = some (.lst xs) ∨ SqT K H' p xs := fun H' x => by
      rcases hP with e | (e | ⟨o, e⟩) | e
      · exact .inl (x.but _ _ hn hn2 e)
      · exact .inr (.inl (.inl (x.but _ _ hn hn2 e)))
      · exact .inr (.inl (.inr ⟨o, x.but _ _ hn hn2 e⟩))
      · exact .inr (.inr e)
    refine ⟨_, rfl, _, rfl, _, rfl, p, xs, rfl, hP.imp SqL.of id, d, c, _, rfl, hD, by omega, by omega, fun r H' r0 r1 hx hD' => ?_⟩
    have hk : r.toNat < xs.length := by omega
    have hat : atI xs r = some (xs[r.toNat]) := by
      have z : atI xs ((r.toNat : Nat) : Int) = some (xs[r.toNat]) := atI_nat (List.getElem?_eq_getElem hk)
      rwa [show ((r.toNat : Nat) : Int) = r by omega] at z
    have fin := q (xs[r.toNat]) H' (List.getElem_mem hk) hx hD'
    rcases seqs H' hx with e | e
    · exact .inl ⟨p, _, _, _, rfl, rfl, SqL.of e, hat, fin⟩
    · exact .inr (.inl ⟨p, _, _, _, rfl, rfl, e, hat, fin⟩)
end
end Kx
namespace Kx
open PySem PySem.Spec PyProof.Rows L2
section
variable {P : Program} {w : World} {K : PySem.W.Frag} {mg : Str → Option Value} {base : Heap}
/-! ### data that is written down -/
def MkE (σ : L2.St) (H0 : Hp) (te : TE) (t : PV) : Prop := ∀ (H : Hp) (Q : VK), Same H0 H → (∀ v H', Same H H' → Is H' v t → Q v H') → te σ H Q
def MkA (σ : L2.St) (H0 : Hp) (ta : TA) (ts : List PV) : Prop := ∀ (H : Hp) (Q : List V → Hp → Prop), Same H0 H → (∀ vs H', Same H H' → IsL H' vs ts → Q vs H') → ta σ H Q
theorem mk_var {σ : L2.St} {H0 : Hp} {i : Nat} {v : V} {t : PV} (e : σ[i]? = some (some v)) (h : Is H0 v t) : MkE σ H0 (tVar i) t := fun H Q s q => ⟨v, e, q v H (.refl _) (h.same s)⟩
theorem mk_str {σ : L2.St} {H0 : Hp} {z : Str} (h : sok z = true) : MkE σ H0 (tC (.str z)) (.str z) := fun H Q s q => q _ H (.refl _) (.str z h)
theorem mk_nil {σ : L2.St} {H0 : Hp} : MkA σ H0 tNil [] := fun H Q s q => q [] H (.refl _) .nil
theorem mk_cons {σ : L2.St} {H0 : Hp} {te : TE} {ta : TA} {t : PV} {ts : List PV} (a : MkE σ H0 te t) (b : MkA σ H0 ta ts) : MkA σ H0 (tCons te ta) (t :: ts) := fun H Q s q =>
  a H _ s fun v H1 s1 i1 => b H1 _ (s.trans s1) fun vs H2 s2 i2 => q _ H2 (s1.trans s2) (.cons (i1.same s2) i2)
theorem mk_tup {σ : L2.St} {H0 : Hp} {ta : TA} {ts : List PV} (a : MkA σ H0 ta ts) (hl : ts.length ≤ 1000) : MkE σ H0 (tTup ta) (.tup ts) := fun H Q s q =>
  a H _ s fun vs H1 s1 i1 => ⟨Nat.le_of_lt (small1000 (by rw [i1.len]; exact hl)), fun p hp => q _ _ (s1.trans (same_upd hp _)) (.tup upd_same (i1.same (same_upd hp _)))⟩
theorem mk_go {σ : L2.St} {H : Hp} {te : TE} {t : PV} {Q : VK} (m : MkE σ H te t) (q : ∀ v H', Same H H' → Is H' v t → Q v H') : te σ H Q := m H Q (.refl _) q
theorem go_asg {σ : L2.St} {H : Hp} {te : TE} {t : PV} {g : TG} {rest : TS} {D : Ends} (m : MkE σ H te t) (q : ∀ v H1, Same H H1 → Is H1 v t → g v σ H1 fun σ2 H2 => rest D σ2 H2) : tSeq (tAsg te g) rest D σ H := m H _ (.refl _) q
theorem go_kind {σ : L2.St} {H : Hp} {te : TE} {rest : TS} {D : Ends} {k j : Int} (e : σ[0]? = some (some (.int k))) (y : k = j → te σ H D.rt) (n : k ≠ j → rest D σ H) : tSeq (tIfS (tTest (tOp rEq (tVar 0) (tC (.int j)))) (tRet te) tNext) rest D σ H := by
  refine ⟨_, e, rfl, _, rfl, ?_⟩
  rw [dec_int]
  by_cases h : k = j
  · have : (k == j) = true := by simpa using h
    rw [this]; exact iteT (y h)
  · have : (k == j) = false := by simpa using h
    rw [this]; exact iteF (n h)
theorem go_kindB {σ : L2.St} {H : Hp} {body rest : TS} {D : Ends} {k j : Int} (e : σ[0]? = some (some (.int k))) (y : k = j → body { D with nx := rest D } σ H) (n : k ≠ j → rest D σ H) : tSeq (tIfS (tTest (tOp rEq (tVar 0) (tC (.int j)))) body tNext) rest D σ H := by
  refine ⟨_, e, rfl, _, rfl, ?_⟩
  rw [dec_int]
  by_cases h : k = j
  · have : (k == j) = true := by simpa using h
    rw [this]; exact iteT (y h)
  · have : (k == j) = false := by simpa using h
    rw [this]; exact iteF (n h)
theorem mk_list {σ : L2.St} {H0 H : Hp} {ta : TA} {ts : List PV} {Q : VK} (a : MkA σ H0 ta ts) (s : Same H0 H) (hl : ts.length ≤ 1000) (q : ∀ l vs H', H l = none → Same H H' → H' l = some (.lst vs) → IsL H' vs ts → Q (.ref l) H') : tLst ta σ H Q :=
  a H _ s fun vs H1 s1 i1 => ⟨Nat.le_of_lt (small1000 (by rw [i1.len]; exact hl)), fun p hp => q p vs _ (s1.free hp) (s1.trans (same_upd hp _)) upd_same (i1.same (same_upd hp _))⟩
/-! ### the table -/
mutual
/-- the names as they stand -/
def lv : PV → List Str
  | .str z => [z]
  | .oth => []
  | .tup [] => []
  | .tup (_ :: r) => lvL r
def lvL : List PV → List Str
  | [] => []
  | t :: r => lv t ++ lvL r
end
structure Row where
  ps : List (Str × PV)
  ix : PV
def prPV (p : Str × PV) : PV := .tup [.str p.1, p.2]
def rowPV (r : Row) : PV := .tup [.tup (r.ps.map prPV), r.ix]
/-- the four makers, and how many parts each has -/
def MK : List (Str × Int) := [("z", 0), ("s", 1), ("p", 2), ("o", 0)]
structure RowG (F : List Str) (r : Row) : Prop where
  ps : ∀ p ∈ r.ps, p.1 ∈ F ∧ form MK true p.2 = true ∧ dep p.2 ≤ 3
  len : r.ps.length ≤ 2
  ix : form MK true r.ix = true ∧ dep r.ix ≤ 3
  nms : ∀ z ∈ lv r.ix, ∃ p ∈ r.ps, z ∈ lv p.2
def tz : PV := .tup [.str "z"]
def ts_ : PV := .tup [.str "s", .str "n"]
def tp_ : PV := .tup [.str "p", .str "n", .str "m"]
def nn : PV := .str "n"
/-- the rows of each kind -/
def shape (k : Int) (own other third : Str) : List Row :=
  if k = 0 then [⟨[], tz⟩, ⟨[(own, nn)], ts_⟩] else
  if k = 1 then [⟨[], tz⟩] else
  if k = 2 then [⟨[(other, nn)], ts_⟩] else
  if k = 3 then [⟨[(other, nn)], ts_⟩, ⟨[(own, nn)], ts_⟩] else
  if k = 4 then [⟨[], tz⟩, ⟨[(other, tz), (own, nn)], ts_⟩] else
  if k = 5 then [⟨[], tz⟩, ⟨[(other, nn)], ts_⟩] else
  if k = 6 then [⟨[(other, ts_)], nn⟩] else
  if k = 7 then [⟨[(other, nn), (third, nn)], ts_⟩] else
  if k = 8 then [⟨[(other, nn), (third, nn)], tz⟩] else
  if k = 9 then [⟨[(own, nn)], ts_⟩] else
  if k = 10 then [⟨[], tz⟩, ⟨[(other, nn)], ts_⟩, ⟨[(third, nn)], ts_⟩] else
  if k = 11 then [⟨[], tz⟩, ⟨[(own, nn), (other, .str "m")], tp_⟩, ⟨[(own, tp_)], nn⟩] else
  if k = 12 then [⟨[], tz⟩, ⟨[(own, nn)], ts_⟩, ⟨[(own, ts_)], nn⟩] else
  if k = 13 then [⟨[], .tup [.str "o"]⟩, ⟨[(other, nn)], ts_⟩] else
  [⟨[], tz⟩, ⟨[(own, nn), (other, .str "m")], ts_⟩]
def ShG (F : List Str) (l : List Row) : Prop := (∀ r ∈ l, RowG F r) ∧ 1 ≤ l.length ∧ l.length ≤ 3
theorem shape_ok {F : List Str} {k : Int} {own other third : Str} (h1 : own ∈ F) (h2 : other ∈ F) (h3 : third ∈ F) : ShG F (shape k own other third) := by
  have base : ∀ r : Row, (∀ p ∈ r.ps, p.1 = own ∨ p.1 = other ∨ p.1 = third) → (∀ p ∈ r.ps, p.2 = tz ∨ p.2 = nn ∨ p.2 = ts_ ∨ p.2 = tp_ ∨ p.2 = .str "m") → r.ps.length ≤ 2 → form MK true r.ix = true → dep r.ix ≤ 3 → (∀ z ∈ lv r.ix, ∃ p ∈ r.ps, z ∈ lv p.2) → RowG F r := by
    intro r a b c d e f
    refine ⟨fun p hp => ⟨?_, ?_⟩, c, ⟨d, e⟩, f⟩
    · rcases a p hp with q | q | q <;> rw [q] <;> assumption
    · rcases b p hp with q | q | q | q | q <;> rw [q] <;> exact ⟨by decide +kernel, by decide⟩
  have all : ∀ l : List Row, 1 ≤ l.length → l.length ≤ 3 → (∀ r ∈ l, RowG F r) → ShG F l := fun l c a b => ⟨b, c, a⟩
  have one : ∀ r : Row, RowG F r → ∀ x ∈ [r], RowG F x := fun r h x hx => by rw [List.mem_singleton.mp hx]; exact h
  have more : ∀ (r : Row) (l : List Row), RowG F r → (∀ x ∈ l, RowG F x) → ∀ x ∈ r :: l, RowG F x := fun r l h g x hx => by
    rcases List.mem_cons.mp hx with q | q
    · rw [q]; exact h
    · exact g x q
  have key : ∀ (c : Prop) [Decidable c] (a b : List Row), ShG F a → ShG F b → ShG F (if c then a else b) := fun c _ a b x y => by split <;> assumption
  unfold shape
  repeat' refine key _ _ _ ?_ ?_
  all_goals refine all _ ?_ ?_ ?_
  all_goals try exact Nat.le_of_ble_eq_true rfl
  all_goals repeat' (first | refine one _ ?_ | refine more _ _ ?_ ?_)
  all_goals refine base _ ?_ ?_ ?_ ?_ ?_ ?_
  all_goals first
    | (show dep _ ≤ 3; decide)
    | exact (by decide +kernel : form MK true tz = true)
    | exact (by decide +kernel : form MK true nn = true)
    | exact (by decide +kernel : form MK true ts_ = true)
    | exact (by decide +kernel : form MK true tp_ = true)
    | exact (by decide +kernel : form MK true (.tup [.str "o"]) = true)
    | (simp [lv, lvL, tz, nn, ts_, tp_, Tm, TmL, dep, depL]; done)
def spShape : Sp := fun vs H Q _ => ∃ (k : Int) (own other third : Str), vs = [.int k, .str own, .str other, .str third] ∧ sok own = true ∧ sok other = true ∧ sok third = true ∧
  ∀ l us H', H l = none → Same H H' → H' l = some (.lst us) → IsL H' us ((shape k own other third).map rowPV) → Q (.ref l) H'
theorem scal_int (a b : Int) : scal (.int a) (.int b) = true := rfl
theorem ok_law_shape (T : Txt K mg)  : FnOk P w K mg base CX0 1 T.a_law_shape T.d_law_shape ["kind", "own", "other", "third"] spShape := by
  refine T.F_law_shape.ok sc_law_shape (fun vs H Q E h => ?_) (fun cdv A outer s H vs Q E hr h => ?_)
  · obtain ⟨k, own, other, third, rfl, _⟩ := h; rfl
  · obtain ⟨k, own, other, third, rfl, o1, o2, o3, q⟩ := h
    refine ⟨_, (pss_cons (ps_asg (pe_tup (pa_cons (pe_tup (pa_cons pe_str pa_nil)) (pa_cons (pe_tup (pa_cons pe_str (pa_cons pe_str pa_nil))) pa_nil))) (pg_tup rfl (pgs_cons (pg_name (i := 4) sc_law_shape.nd rfl (Or.inl rfl)) (pgs_cons (pg_name (i := 5) sc_law_shape.nd rfl (Or.inl rfl)) pgs_nil))))
    (pss_cons (ps_set (i := 6) sc_law_shape.nd rfl (Or.inl rfl) (pe_tup (pa_cons (pe_tup (pa_cons (pv 2) (pa_cons pe_str pa_nil))) pa_nil)))
    (pss_cons (ps_if (pt_cmpR op_eq (pv 0) pe_int (nomark _)) (pss_one (ps_ret (pe_lst (pa_cons (pe_tup (pa_cons (pe_tup pa_nil) (pa_cons (pv 4) pa_nil))) (pa_cons (pe_tup (pa_cons (pe_tup (pa_cons (pe_tup (pa_cons (pv 1) (pa_cons pe_str pa_nil))) pa_nil)) (pa_cons (pv 5) pa_nil))) pa_nil))))) pss_nil)
    (pss_cons (ps_if (pt_cmpR op_eq (pv 0) pe_int (nomark _)) (pss_one (ps_ret (pe_lst (pa_cons (pe_tup (pa_cons (pe_tup pa_nil) (pa_cons (pv 4) pa_nil))) pa_nil)))) pss_nil)
    (pss_cons (ps_if (pt_cmpR op_eq (pv 0) pe_int (nomark _)) (pss_one (ps_ret (pe_lst (pa_cons (pe_tup (pa_cons (pv 6) (pa_cons (pv 5) pa_nil))) pa_nil)))) pss_nil)
    (pss_cons (ps_if (pt_cmpR op_eq (pv 0) pe_int (nomark _)) (pss_one (ps_ret (pe_lst (pa_cons (pe_tup (pa_cons (pv 6) (pa_cons (pv 5) pa_nil))) (pa_cons (pe_tup (pa_cons (pe_tup (pa_cons (pe_tup (pa_cons (pv 1) (pa_cons pe_str pa_nil))) pa_nil)) (pa_cons (pv 5) pa_nil))) pa_nil))))) pss_nil)
    (pss_cons (ps_if (pt_cmpR op_eq (pv 0) pe_int (nomark _)) (pss_one (ps_ret (pe_lst (pa_cons (pe_tup (pa_cons (pe_tup pa_nil) (pa_cons (pv 4) pa_nil))) (pa_cons (pe_tup (pa_cons (pe_tup (pa_cons (pe_tup (pa_cons (pv 2) (pa_cons (pv 4) pa_nil))) (pa_cons (pe_tup (pa_cons (pv 1) (pa_cons pe_str pa_nil))) pa_nil))) (pa_cons (pv 5) pa_nil))) pa_nil))))) pss_nil)
    (pss_cons (ps_if (pt_cmpR op_eq (pv 0) pe_int (nomark _)) (pss_one (ps_ret (pe_lst (pa_cons (pe_tup (pa_cons (pe_tup pa_nil) (pa_cons (pv 4) pa_nil))) (pa_cons (pe_tup (pa_cons (pv 6) (pa_cons (pv 5) pa_nil))) pa_nil))))) pss_nil)
    (pss_cons (ps_if (pt_cmpR op_eq (pv 0) pe_int (nomark _)) (pss_one (ps_ret (pe_lst (pa_cons (pe_tup (pa_cons (pe_tup (pa_cons (pe_tup (pa_cons (pv 2) (pa_cons (pv 5) pa_nil))) pa_nil)) (pa_cons pe_str pa_nil))) pa_nil)))) pss_nil)
    (pss_cons (ps_if (pt_cmpR op_eq (pv 0) pe_int (nomark _)) (pss_one (ps_ret (pe_lst (pa_cons (pe_tup (pa_cons (pe_tup (pa_cons (pe_tup (pa_cons (pv 2) (pa_cons pe_str pa_nil))) (pa_cons (pe_tup (pa_cons (pv 3) (pa_cons pe_str pa_nil))) pa_nil))) (pa_cons (pv 5) pa_nil))) pa_nil)))) pss_nil)
    (pss_cons (ps_if (pt_cmpR op_eq (pv 0) pe_int (nomark _)) (pss_one (ps_ret (pe_lst (pa_cons (pe_tup (pa_cons (pe_tup (pa_cons (pe_tup (pa_cons (pv 2) (pa_cons pe_str pa_nil))) (pa_cons (pe_tup (pa_cons (pv 3) (pa_cons pe_str pa_nil))) pa_nil))) (pa_cons (pv 4) pa_nil))) pa_nil)))) pss_nil)
    (pss_cons (ps_if (pt_cmpR op_eq (pv 0) pe_int (nomark _)) (pss_one (ps_ret (pe_lst (pa_cons (pe_tup (pa_cons (pe_tup (pa_cons (pe_tup (pa_cons (pv 1) (pa_cons pe_str pa_nil))) pa_nil)) (pa_cons (pv 5) pa_nil))) pa_nil)))) pss_nil)
    (pss_cons (ps_if (pt_cmpR op_eq (pv 0) pe_int (nomark _)) (pss_one (ps_ret (pe_lst (pa_cons (pe_tup (pa_cons (pe_tup pa_nil) (pa_cons (pv 4) pa_nil))) (pa_cons (pe_tup (pa_cons (pv 6) (pa_cons (pv 5) pa_nil))) (pa_cons (pe_tup (pa_cons (pe_tup (pa_cons (pe_tup (pa_cons (pv 3) (pa_cons pe_str pa_nil))) pa_nil)) (pa_cons (pv 5) pa_nil))) pa_nil)))))) pss_nil)
    (pss_cons (ps_if (pt_cmpR op_eq (pv 0) pe_int (nomark _)) (pss_cons (ps_set (i := 7) sc_law_shape.nd rfl (Or.inl rfl) (pe_tup (pa_cons pe_str (pa_cons pe_str (pa_cons pe_str pa_nil)))))
    (pss_one (ps_ret (pe_lst (pa_cons (pe_tup (pa_cons (pe_tup pa_nil) (pa_cons (pv 4) pa_nil))) (pa_cons (pe_tup (pa_cons (pe_tup (pa_cons (pe_tup (pa_cons (pv 1) (pa_cons pe_str pa_nil))) (pa_cons (pe_tup (pa_cons (pv 2) (pa_cons pe_str pa_nil))) pa_nil))) (pa_cons (pv 7) pa_nil))) (pa_cons (pe_tup (pa_cons (pe_tup (pa_cons (pe_tup (pa_cons (pv 1) (pa_cons (pv 7) pa_nil))) pa_nil)) (pa_cons pe_str pa_nil))) pa_nil))))))) pss_nil)
    (pss_cons (ps_if (pt_cmpR op_eq (pv 0) pe_int (nomark _)) (pss_one (ps_ret (pe_lst (pa_cons (pe_tup (pa_cons (pe_tup pa_nil) (pa_cons (pv 4) pa_nil))) (pa_cons (pe_tup (pa_cons (pe_tup (pa_cons (pe_tup (pa_cons (pv 1) (pa_cons pe_str pa_nil))) pa_nil)) (pa_cons (pv 5) pa_nil))) (pa_cons (pe_tup (pa_cons (pe_tup (pa_cons (pe_tup (pa_cons (pv 1) (pa_cons (pv 5) pa_nil))) pa_nil)) (pa_cons pe_str pa_nil))) pa_nil)))))) pss_nil)
    (pss_cons (ps_if (pt_cmpR op_eq (pv 0) pe_int (nomark _)) (pss_one (ps_ret (pe_lst (pa_cons (pe_tup (pa_cons (pe_tup pa_nil) (pa_cons (pe_tup (pa_cons pe_str pa_nil)) pa_nil))) (pa_cons (pe_tup (pa_cons (pv 6) (pa_cons (pv 5) pa_nil))) pa_nil))))) pss_nil)
    (pss_one (ps_ret (pe_lst (pa_cons (pe_tup (pa_cons (pe_tup pa_nil) (pa_cons (pv 4) pa_nil))) (pa_cons (pe_tup (pa_cons (pe_tup (pa_cons (pe_tup (pa_cons (pv 1) (pa_cons pe_str pa_nil))) (pa_cons (pe_tup (pa_cons (pv 2) (pa_cons pe_str pa_nil))) pa_nil))) (pa_cons (pv 5) pa_nil))) pa_nil))))))))))))))))))))), ?_⟩
    have v1 : Is H (.str own) (.str own) := .str _ o1
    have v2 : Is H (.str other) (.str other) := .str _ o2
    have v3 : Is H (.str third) (.str third) := .str _ o3
    refine go_asg (t := .tup [tz, ts_]) ?_ fun v H1 s1 i1 => ?_
    · (repeat (first | exact mk_nil | refine mk_cons ?_ ?_ | refine mk_tup ?_ (by simp) | exact mk_str (by decide +kernel) | (refine mk_var rfl ?_; assumption)))
    obtain ⟨a, vs, rfl, ea, hL⟩ := i1.tup_inv
    cases hL with
    | @cons vz _ _ _ iz hL =>
    cases hL with
    | @cons vn _ _ _ inn hL =>
    cases hL
    refine ⟨a, _, rfl, .inl (.inl ea), rfl, vz, _, rfl, vn, _, rfl, rfl, ?_⟩
    have v1 := v1.same s1
    have v2 := v2.same s1
    have v3 := v3.same s1
    refine go_asg (t := .tup [prPV (other, nn)]) ?_ fun vg H2 s2 ig => ?_
    · (repeat (first | exact mk_nil | refine mk_cons ?_ ?_ | refine mk_tup ?_ (by simp) | exact mk_str (by decide +kernel) | (refine mk_var rfl ?_; assumption)))
    have v1 := v1.same s2
    have v2 := v2.same s2
    have v3 := v3.same s2
    have iz := iz.same s2
    have inn := inn.same s2
    have s12 := s1.trans s2
    have fin : ∀ {ta : TA} {rows : List Row} {σ : L2.St}, shape k own other third = rows → rows.length ≤ 3 → MkA σ H2 ta (rows.map rowPV) → tLst ta σ H2 Q := fun {ta rows σ} e hl m =>
      mk_list m (.refl _) (by rw [List.length_map]; omega) fun l us H' l0 s' el il => q l us H' (s12.free l0) (s12.trans s') el (by rw [e]; exact il)
    have nm := fun (j : Int) (l r : List Row) (h : k = j) => (if_pos h : (if k = j then l else r) = l)
    refine go_kind rfl (fun h0 => fin (rows := [⟨[], tz⟩, ⟨[(own, nn)], ts_⟩]) (by subst h0; rfl) (Nat.le_of_ble_eq_true rfl) ?_) fun h0 => ?_
    · (repeat (first | exact mk_nil | refine mk_cons ?_ ?_ | refine mk_tup ?_ (by simp) | exact mk_str (by decide +kernel) | (refine mk_var rfl ?_; assumption)))
    refine go_kind rfl (fun h1 => fin (rows := [⟨[], tz⟩]) (by subst h1; rfl) (Nat.le_of_ble_eq_true rfl) ?_) fun h1 => ?_
    · (repeat (first | exact mk_nil | refine mk_cons ?_ ?_ | refine mk_tup ?_ (by simp) | exact mk_str (by decide +kernel) | (refine mk_var rfl ?_; assumption)))
    refine go_kind rfl (fun h2 => fin (rows := [⟨[(other, nn)], ts_⟩]) (by subst h2; rfl) (Nat.le_of_ble_eq_true rfl) ?_) fun h2 => ?_
    · (repeat (first | exact mk_nil | refine mk_cons ?_ ?_ | refine mk_tup ?_ (by simp) | exact mk_str (by decide +kernel) | (refine mk_var rfl ?_; assumption)))
    refine go_kind rfl (fun h3 => fin (rows := [⟨[(other, nn)], ts_⟩, ⟨[(own, nn)], ts_⟩]) (by subst h3; rfl) (Nat.le_of_ble_eq_true rfl) ?_) fun h3 => ?_
    · (repeat (first | exact mk_nil | refine mk_cons ?_ ?_ | refine mk_tup ?_ (by simp) | exact mk_str (by decide +kernel) | (refine mk_var rfl ?_; assumption)))
    refine go_kind rfl (fun h4 => fin (rows := [⟨[], tz⟩, ⟨[(other, tz), (own, nn)], ts_⟩]) (by subst h4; rfl) (Nat.le_of_ble_eq_true rfl) ?_) fun h4 => ?_
    · (repeat (first | exact mk_nil | refine mk_cons ?_ ?_ | refine mk_tup ?_ (by simp) | exact mk_str (by decide +kernel) | (refine mk_var rfl ?_; assumption)))
    refine go_kind rfl (fun h5 => fin (rows := [⟨[], tz⟩, ⟨[(other, nn)], ts_⟩]) (by subst h5; rfl) (Nat.le_of_ble_eq_true rfl) ?_) fun h5 => ?_
    · (repeat (first | exact mk_nil | refine mk_cons ?_ ?_ | refine mk_tup ?_ (by simp) | exact mk_str (by decide +kernel) | (refine mk_var rfl ?_; assumption)))
    refine go_kind rfl (fun h6 => fin (rows := [⟨[(other, ts_)], nn⟩]) (by subst h6; rfl) (Nat.le_of_ble_eq_true rfl) ?_) fun h6 => ?_
    · (repeat (first | exact mk_nil | refine mk_cons ?_ ?_ | refine mk_tup ?_ (by simp) | exact mk_str (by decide +kernel) | (refine mk_var rfl ?_; assumption)))
    refine go_kind rfl (fun h7 => fin (rows := [⟨[(other, nn), (third, nn)], ts_⟩]) (by subst h7; rfl) (Nat.le_of_ble_eq_true rfl) ?_) fun h7 => ?_
    · (repeat (first | exact mk_nil | refine mk_cons ?_ ?_ | refine mk_tup ?_ (by simp) | exact mk_str (by decide +kernel) | (refine mk_var rfl ?_; assumption)))
    refine go_kind rfl (fun h8 => fin (rows := [⟨[(other, nn), (third, nn)], tz⟩]) (by subst h8; rfl) (Nat.le_of_ble_eq_true rfl) ?_) fun h8 => ?_
    · (repeat (first | exact mk_nil | refine mk_cons ?_ ?_ | refine mk_tup ?_ (by simp) | exact mk_str (by decide +kernel) | (refine mk_var rfl ?_; assumption)))
    refine go_kind rfl (fun h9 => fin (rows := [⟨[(own, nn)], ts_⟩]) (by subst h9; rfl) (Nat.le_of_ble_eq_true rfl) ?_) fun h9 => ?_
    · (repeat (first | exact mk_nil | refine mk_cons ?_ ?_ | refine mk_tup ?_ (by simp) | exact mk_str (by decide +kernel) | (refine mk_var rfl ?_; assumption)))
    refine go_kind rfl (fun h10 => fin (rows := [⟨[], tz⟩, ⟨[(other, nn)], ts_⟩, ⟨[(third, nn)], ts_⟩]) (by subst h10; rfl) (Nat.le_of_ble_eq_true rfl) ?_) fun h10 => ?_
    · (repeat (first | exact mk_nil | refine mk_cons ?_ ?_ | refine mk_tup ?_ (by simp) | exact mk_str (by decide +kernel) | (refine mk_var rfl ?_; assumption)))
    refine go_kindB rfl (fun h11 => ?_) fun h11 => ?_
    · refine go_asg (t := tp_) ?_ fun vp H3 s3 ip => ?_
      · (repeat (first | exact mk_nil | refine mk_cons ?_ ?_ | refine mk_tup ?_ (by simp) | exact mk_str (by decide +kernel) | (refine mk_var rfl ?_; assumption)))
      have v1 := v1.same s3
      have v2 := v2.same s3
      have iz := iz.same s3
      have inn := inn.same s3
      refine mk_list (ts := [⟨[], tz⟩, ⟨[(own, nn), (other, .str "m")], tp_⟩, ⟨[(own, tp_)], nn⟩].map rowPV) ?_ (.refl _) (by rw [List.length_map]; exact Nat.le_of_ble_eq_true rfl) fun l us H' l0 s' el il => q l us H' ((s12.trans s3).free l0) ((s12.trans s3).trans s') el (by rw [show shape k own other third = _ from by subst h11; rfl]; exact il)
      (repeat (first | exact mk_nil | refine mk_cons ?_ ?_ | refine mk_tup ?_ (by simp) | exact mk_str (by decide +kernel) | (refine mk_var rfl ?_; assumption)))
    refine go_kind rfl (fun h12 => fin (rows := [⟨[], tz⟩, ⟨[(own, nn)], ts_⟩, ⟨[(own, ts_)], nn⟩]) (by subst h12; rfl) (Nat.le_of_ble_eq_true rfl) ?_) fun h12 => ?_
    · (repeat (first | exact mk_nil | refine mk_cons ?_ ?_ | refine mk_tup ?_ (by simp) | exact mk_str (by decide +kernel) | (refine mk_var rfl ?_; assumption)))
    refine go_kind rfl (fun h13 => fin (rows := [⟨[], .tup [.str "o"]⟩, ⟨[(other, nn)], ts_⟩]) (by subst h13; rfl) (Nat.le_of_ble_eq_true rfl) ?_) fun h13 => ?_
    · (repeat (first | exact mk_nil | refine mk_cons ?_ ?_ | refine mk_tup ?_ (by simp) | exact mk_str (by decide +kernel) | (refine mk_var rfl ?_; assumption)))
    refine fin (rows := [⟨[], tz⟩, ⟨[(own, nn), (other, .str "m")], ts_⟩]) ?_ (Nat.le_of_ble_eq_true rfl) ?_
    · unfold shape
      simp only [h0, h1, h2, h3, h4, h5, h6, h7, h8, h9, h10, h11, h12, h13, if_false]
    · (repeat (first | exact mk_nil | refine mk_cons ?_ ?_ | refine mk_tup ?_ (by simp) | exact mk_str (by decide +kernel) | (refine mk_var rfl ?_; assumption)))
end
end Kx
namespace Kx
open PySem PySem.Spec PyProof.Rows L2
section
variable {P : Program} {w : World} {K : PySem.W.Frag} {mg : Str → Option Value} {base : Heap}
structure Con where
  w : Str
  ps : List (Str × PV)
  fam : Str
  ix : PV
def conPV (c : Con) : PV := .tup [.str c.w, .tup (c.ps.map prPV), .str c.fam, c.ix]
def tabPV (mk : List PV) (F : List Str) (cs : List Con) : PV := .tup [.str "table", .tup mk, .tup (F.map PV.str), .tup (cs.map conPV)]
def kw (i : Nat) : Str := ("K" : Str) ++ (toString ((i : Nat) : Int))
def fams : List Str := ["Fa", "Fb", "Fc", "Fd"]
structure ConsG (F : List Str) (cs : List Con) : Prop where
  word : ∀ i c, cs[i]? = some c → c.w = kw i
  row : ∀ c ∈ cs, RowG F ⟨c.ps, c.ix⟩ ∧ c.fam ∈ F
structure TabG (F : List Str) (cs : List Con) : Prop where
  cons : ConsG F cs
  len : 1 ≤ cs.length ∧ cs.length ≤ 12
  fl : 2 ≤ F.length ∧ F.length ≤ 4
  ok : ∀ z ∈ F, sok z = true
theorem kw_ok : ∀ i, i < 12 → sok (kw i) = true := by decide +kernel
theorem kw_inj : ∀ i, i < 12 → ∀ j, j < 12 → kw i = kw j → i = j := by decide +kernel
theorem fams_ok : ∀ z ∈ fams, sok z = true := by decide +kernel
theorem Ex.own {d c l : Addr} {H H1 : Hp} (x : Ex d c H H1) (hl : H l = none) (o : HO) : Ex d c H (upd H1 l o) :=
  ⟨fun b u n n2 h => by rw [upd_ne (ne_of_none h hl)]; exact x.but b u n n2 h, fun ⟨xs, e⟩ => by rw [upd_ne (ne_of_none e hl)]; exact x.l1 ⟨xs, e⟩, fun ⟨xs, e⟩ => by rw [upd_ne (ne_of_none e hl)]; exact x.l2 ⟨xs, e⟩⟩
mutual
/-- a list is written -/
theorem Is.wr {H : Hp} {l : Addr} {xs ys : List V} (e : H l = some (.lst xs)) : ∀ {v : V} {t : PV}, Is H v t → Is (upd H l (.lst ys)) v t
  | _, _, .str z k => .str z k
  | _, _, .non => .non
  | _, _, .bl b => .bl b
  | _, _, .int i => .int i
  | _, _, .lst (a := a) q => by
    by_cases h : a = l
    · subst h; exact .lst ⟨ys, upd_same⟩
    · obtain ⟨zs, q⟩ := q; exact .lst ⟨zs, by rw [upd_ne h]; exact q⟩
  | _, _, .dict (a := a) (kvs := kvs) q => .dict (kvs := kvs) (by rw [upd_ne fun z => by rw [z, e] at q; cases q]; exact q)
  | _, _, .tup q r => .tup (Tu.lst e ys _ _ q (fun _ z => by cases z) (fun _ z => by cases z)) (IsL.wr e r)
theorem IsL.wr {H : Hp} {l : Addr} {xs ys : List V} (e : H l = some (.lst xs)) : ∀ {v : List V} {t : List PV}, IsL H v t → IsL (upd H l (.lst ys)) v t
  | _, _, .nil => .nil
  | _, _, .cons a r => .cons (Is.wr e a) (IsL.wr e r)
end
theorem mk_int {σ : L2.St} {H0 : Hp} (i : Int) : MkE σ H0 (tC (.int i)) .oth := fun H Q s q => q _ H (.refl _) (.int i)
theorem go_sl {σ : L2.St} {H : Hp} {te : TE} {tl th : TO} {r : V → Option Int → Option Int → Hp → VK → Prop} {t : PV} {g : TG} {D : Ends} (m : MkE σ H te t) (q : ∀ v H1, Same H H1 → Is H1 v t → tl σ H1 fun lo H2 => th σ H2 fun hi H3 => r v lo hi H3 fun x H4 => g x σ H4 D.nx) : tAsg (tSl r te tl th) g D σ H := m H _ (.refl _) q
theorem Ex.free {d c l : Addr} {H H' : Hp} (x : Ex d c H H') (h : Dr H' d c) (e : H' l = none) : H l = none := by
  obtain ⟨n1, n2⟩ := h.free e
  cases q : H l with
  | none => rfl
  | some o => have := x.but l o n1 n2 q; rw [e] at this; cases this
theorem num_log : ∀ n : Nat, n < 12 → ((n : Nat) : Int).natAbs.log2 < 1920 := by decide +kernel
theorem num_len : ∀ n : Nat, n < 12 → ("K" : Str).length + (toString ((n : Nat) : Int) : Str).length ≤ sizeLine := by decide +kernel
def spTable : Sp := fun vs H Q _ => ∃ (d c : Addr), vs = [.ref d] ∧ Dr H d c ∧ ∀ v H' mk F cs, Is H' v (tabPV mk F cs) → TabG F cs → Ex d c H H' → Dr H' d c → Q v H'
theorem ok_law_table (T : Txt K mg) (G_law_draw : FnOk P w K mg base CX0 1 T.a_law_draw T.d_law_draw ["state", "many"] spDraw) (G_law_pick : FnOk P w K mg base CX0 2 T.a_law_pick T.d_law_pick ["state", "row"] (spPick K)) (G_law_shape : FnOk P w K mg base CX0 1 T.a_law_shape T.d_law_shape ["kind", "own", "other", "third"] spShape) : FnOk P w K mg base CX0 3 T.a_law_table T.d_law_table ["state"] spTable := by
  refine T.F_law_table.ok sc_law_table (fun vs H Q E h => ?_) (fun cdv A outer s H vs Q E hr h => ?_)
  · obtain ⟨d, c, rfl, _⟩ := h; rfl
  · obtain ⟨d, c, rfl, hD, q⟩ := h
    have hr_law_draw : Room 1 _ := hr.mono (by decide)
    have hr_law_pick := hr
    have hr_law_shape : Room 1 _ := hr.mono (by decide)
    refine ⟨_, (Evl.pss_cut (ps_set (i := 1) sc_law_table.nd rfl (Or.inl rfl) (pe_slice sl_tupA (pe_tup (pa_cons (pe_tup (pa_cons pe_str (pa_cons pe_int pa_nil))) (pa_cons (pe_tup (pa_cons pe_str (pa_cons pe_int pa_nil))) (pa_cons (pe_tup (pa_cons pe_str (pa_cons pe_int pa_nil))) (pa_cons (pe_tup (pa_cons pe_str (pa_cons pe_int pa_nil))) pa_nil))))) po_none (po_some (pe_ix ix_list (pe_lst (pa_cons pe_int (pa_cons pe_int (pa_cons pe_int pa_nil)))) (pe_call G_law_draw hr_law_draw rfl T.m_law_draw T.F_law_draw.kp T.b_law_draw .nil pass0 (pa_cons (pv 0) (pa_cons pe_int pa_nil))) (fun _ _ => rfl)))))
    (Evl.pss_cut (ps_set (i := 2) sc_law_table.nd rfl (Or.inl rfl) (pe_slice sl_list (pe_lst (pa_cons pe_str (pa_cons pe_str (pa_cons pe_str (pa_cons pe_str pa_nil))))) po_none (po_some (pe_op op_add pe_int (pe_call G_law_draw hr_law_draw rfl T.m_law_draw T.F_law_draw.kp T.b_law_draw .nil pass0 (pa_cons (pv 0) (pa_cons pe_int pa_nil)))))))
    (pss_cons (ps_set (i := 3) sc_law_table.nd rfl (Or.inl rfl) (pe_lst pa_nil))
    (Evl.pss_cut (ps_for PassesOwn.never rfl (pi_list (pv 2)) (pg_name (i := 4) sc_law_table.nd rfl (Or.inl rfl))
    (pss_cons (ps_set (i := 5) sc_law_table.nd rfl (Or.inl rfl) (pe_call G_law_draw hr_law_draw rfl T.m_law_draw T.F_law_draw.kp T.b_law_draw .nil pass0 (pa_cons (pv 0) (pa_cons pe_int pa_nil))))
    (Evl.pss_cut (ps_if (PW.pt (pw_and (pt_cmpR op_lt (pe_callB call_len_seq (by rfl) T.z_len (by decide +kernel) (pa_cons (pv 1) pa_nil)) pe_int (nomark _)) (pw_and1 (pt_cmpR op_in_seq (pv 5) (pe_tup (pa_cons pe_int (pa_cons pe_int pa_nil))) (by rfl))))) (pss_one (ps_set (i := 5) sc_law_table.nd rfl (Or.inl rfl) pe_int)) pss_nil)
    (pss_one (ps_for PassesOwn.never rfl (pi_list (pe_call G_law_shape hr_law_shape rfl T.m_law_shape T.F_law_shape.kp T.b_law_shape .nil pass0 (pa_cons (pv 5) (pa_cons (pv 4) (pa_cons (pe_call G_law_pick hr_law_pick rfl T.m_law_pick T.F_law_pick.kp T.b_law_pick .nil pass0 (pa_cons (pv 0) (pa_cons (pv 2) pa_nil))) (pa_cons (pe_call G_law_pick hr_law_pick rfl T.m_law_pick T.F_law_pick.kp T.b_law_pick .nil pass0 (pa_cons (pv 0) (pa_cons (pv 2) pa_nil))) pa_nil)))))) (pg_tup rfl (pgs_cons (pg_name (i := 6) sc_law_table.nd rfl (Or.inl rfl)) (pgs_cons (pg_name (i := 7) sc_law_table.nd rfl (Or.inl rfl)) pgs_nil)))
    (pss_one (ps_expr (pe_bm PySem.F.plainAttrs_list PySem.F.slot_list_append PySem.F.type_list_append mt_append (pv 3) (pa_cons (pe_tup (pa_cons (pe_op op_add_str pe_str (pe_callTy call_str_int (by rfl) T.z_str (by decide +kernel) (pa_cons (pe_callB call_len_seq (by rfl) T.z_len (by decide +kernel) (pa_cons (pv 3) pa_nil)) pa_nil))) (pa_cons (pv 6) (pa_cons (pv 4) (pa_cons (pv 7) pa_nil))))) pa_nil)))))))))
    (pss_one (ps_ret (pe_tup (pa_cons pe_str (pa_cons (pv 1) (pa_cons (pe_callTy call_tuple_of (by rfl) T.z_tuple (by decide +kernel) (pa_cons (pv 2) pa_nil)) (pa_cons (pe_callTy call_tuple_of (by rfl) T.z_tuple (by decide +kernel) (pa_cons (pv 3) pa_nil)) pa_nil))))))))))), ?_⟩
    refine ⟨fun σ H' => ∃ (mb : Addr) (mk : List PV), σ = [some (.ref d), some (.ref mb), none, none, none, none, none, none] ∧ Is H' (.ref mb) (.tup mk) ∧ Dr H' d c ∧ Ex d c H H', ?_, ?_⟩
    · refine go_sl (t := .tup [.tup [.str "z", .oth], .tup [.str "s", .oth], .tup [.str "p", .oth], .tup [.str "o", .oth]]) ?_ fun vm H1 s1 im => ?_
      · (repeat (first | exact mk_nil | refine mk_cons ?_ ?_ | refine mk_tup ?_ (by simp) | exact mk_str (by decide +kernel) | exact mk_int _))
      obtain ⟨ma, mvs, rfl, em, imL⟩ := im.tup_inv
      refine ⟨(by show 3 ≤ sizeLine; decide), fun nl hnl => ?_⟩
      have s2 := same_upd hnl (.lst [.int 2, .int 2, .int 4])
      have nlf : H nl = none := s1.free hnl
      obtain ⟨nd1, nc1⟩ := hD.free nlf
      have D2 := (hD.same s1).same s2
      refine ⟨_, rfl, d, c, 3, rfl, D2, by omega, by omega, fun r H3 r0 r1 x3 hD3 => ?_⟩
      have el3 : H3 nl = some (.lst [.int 2, .int 2, .int 4]) := x3.but _ _ nd1 nc1 upd_same
      have em3 : H3 ma = some (.tup mvs) := x3.keep D2 (s2 _ _ em) fun _ z => by cases z
      have imL3 := (imL.same s2).ex x3 D2
      have xx : Ex d c H H3 := (Ex.of (s1.trans s2)).trans x3
      have at3 : ∃ k : Nat, atI [V.int 2, V.int 2, V.int 4] r = some (.int (k : Int)) ∧ k ≤ 4 := by
        rcases (show r = 0 ∨ r = 1 ∨ r = 2 by omega) with rfl | rfl | rfl
        · exact ⟨2, rfl, by decide⟩
        · exact ⟨2, rfl, by decide⟩
        · exact ⟨4, rfl, by decide⟩
      obtain ⟨k, atk, hk⟩ := at3
      refine ⟨nl, _, _, _, rfl, rfl, SqL.of el3, atk, _, rfl, ma, mvs, rfl, .inl (.inl em3), fun _ => ⟨ma, _, rfl, .tup em3 imL3, hD3, xx⟩, fun _ p hp => ?_⟩
      have s4 := same_upd hp (.tup (cutV mvs none (some (k : Int))))
      have lm := imL3.len
      have ic := (imL3.same s4).take k
      rw [← cut_to mvs (by rw [lm]; exact hk)] at ic
      exact ⟨p, _, rfl, .tup upd_same ic, hD3.same s4, xx.trans (.of s4)⟩
    · rintro σ H1 ⟨mb, mk, rfl, imk, hD1, x1⟩
      refine ⟨fun σ H' => ∃ (fl : Addr) (F : List Str), σ = [some (.ref d), some (.ref mb), some (.ref fl), none, none, none, none, none] ∧ Is H' (.ref mb) (.tup mk) ∧ Dr H' d c ∧ Ex d c H H' ∧ H' fl = some (.lst (F.map V.str)) ∧ H fl = none ∧ 2 ≤ F.length ∧ F.length ≤ 4 ∧ (∀ z ∈ F, sok z = true), ?_, ?_⟩
      · refine ⟨(by show 4 ≤ sizeLine; decide), fun l0 hl0 => ?_⟩
        have s2 := same_upd hl0 (.lst (fams.map V.str))
        have D2 := hD1.same s2
        obtain ⟨nd1, nc1⟩ := hD1.free hl0
        refine ⟨_, rfl, d, c, 3, rfl, D2, by omega, by omega, fun r H3 r0 r1 x3 hD3 => ⟨_, _, rfl, rfl, _, rfl, l0, fams.map V.str, rfl, SqL.of (x3.but _ _ nd1 nc1 upd_same), fun fl hfl => ?_⟩⟩
        have s4 := same_upd hfl (.lst (cutV (fams.map V.str) none (some (2 + r))))
        have ek : (2 + r : Int) = ((2 + r.toNat : Nat) : Int) := by omega
        have hk : 2 + r.toNat ≤ fams.length := by show _ ≤ 4; omega
        have xx : Ex d c H (upd H3 fl (.lst (cutV (fams.map V.str) none (some (2 + r))))) := ((x1.trans (.of s2)).trans x3).trans (.of s4)
        refine ⟨fl, fams.take (2 + r.toNat), rfl, ((imk.same s2).ex x3 D2).same s4, hD3.same s4, xx, ?_, ?_, ?_, ?_, fun z hz => fams_ok z (List.mem_of_mem_take hz)⟩
        · rw [upd_same, ek, cut_to _ (by rw [List.length_map]; exact hk), List.map_take]
        · exact ((x1.trans (.of s2)).trans x3).free hD3 hfl
        · rw [List.length_take, Nat.min_eq_left hk]; omega
        · rw [List.length_take, Nat.min_eq_left hk]; omega
      · rintro σ H2 ⟨fl, F, rfl, imk2, hD2, x2, ef, ff, F2, F4, Fok⟩
        obtain ⟨nfd, nfc⟩ : fl ≠ d ∧ fl ≠ c := by
          obtain ⟨h1, h2⟩ := hD.free ff
          exact ⟨h1, h2⟩
        refine ⟨by decide, fun cl hcl => ?_⟩
        have s3 := same_upd hcl (.lst [])
        obtain ⟨ncd, ncc⟩ := hD2.free hcl
        have nfl : cl ≠ fl := (ne_of_none ef hcl).symm
        have cfree : H cl = none := x2.free hD2 hcl
        refine ⟨fun σ H' => ∃ (y4 y5 y6 y7 : Option V) (vs : List V) (cs : List Con), σ = [some (.ref d), some (.ref mb), some (.ref fl), some (.ref cl), y4, y5, y6, y7] ∧ Is H' (.ref mb) (.tup mk) ∧ Dr H' d c ∧ Ex d c H H' ∧ H' fl = some (.lst (F.map V.str)) ∧ H' cl = some (.lst vs) ∧ IsL H' vs (cs.map conPV) ∧ ConsG F cs ∧ 1 ≤ cs.length ∧ cs.length ≤ 12, ?_, ?_⟩
        · refine ⟨_, rfl, fl, rfl, ⟨_, SqL.of (s3 _ _ ef)⟩, ?_⟩
          refine for_list (K := K) (a := fl) (xs := F.map V.str) (fun i σ H' => ∃ (y4 y5 y6 y7 : Option V) (vs : List V) (cs : List Con), σ = [some (.ref d), some (.ref mb), some (.ref fl), some (.ref cl), y4, y5, y6, y7] ∧ Is H' (.ref mb) (.tup mk) ∧ Dr H' d c ∧ Ex d c H H' ∧ H' fl = some (.lst (F.map V.str)) ∧ H' cl = some (.lst vs) ∧ IsL H' vs (cs.map conPV) ∧ ConsG F cs ∧ i ≤ cs.length ∧ cs.length ≤ 3 * i) ?_ ?_ ?_ ?_
          · exact ⟨_, _, _, _, [], [], rfl, imk2.same s3, hD2.same s3, x2.trans (.of s3), s3 _ _ ef, upd_same, .nil, ⟨fun i c e => by simp at e, fun c h => by cases h⟩, by simp, by simp⟩
          · exact fun i σ H' _ ⟨_, _, _, _, _, _, _, _, _, _, e, _⟩ => SqL.of e
          · rintro i x σ H3 hx ⟨y4, y5, y6, y7, vs, cs, rfl, imk3, hD3, x3, ef3, ec3, ic3, G, c1, c3⟩
            have hi := (List.getElem?_eq_some_iff.mp hx).1
            rw [List.length_map] at hi
            obtain ⟨own, hown, rfl⟩ := List.mem_map.mp (List.mem_of_getElem? hx)
            refine ⟨_, rfl, d, c, 15, rfl, hD3, by omega, by omega, fun r H4 r0 r1 x4 hD4 => ?_⟩
            have ef4 := x4.but _ _ nfd nfc ef3
            have ec4 := x4.but _ _ ncd ncc ec3
            refine ⟨fun σ H' => ∃ k : Int, σ = [some (.ref d), some (.ref mb), some (.ref fl), some (.ref cl), some (.str own), some (.int k), y6, y7] ∧ Same H4 H', ?_, ?_⟩
            · obtain ⟨mb', mvs, emb, em, iml⟩ := (imk3.ex x4 hD3).tup_inv
              cases emb
              refine ⟨_, rfl, mb, mvs, rfl, .inr (.inl (.inl em)), _, _, rfl, rfl, _, rfl, ite2 (fun _ => ?_) (fun _ => iteF ⟨_, rfl, .refl _⟩)⟩
              refine ⟨_, rfl, (by show 2 ≤ sizeLine; decide), fun p hp => ⟨p, _, rfl, .inr (.inl (.inl upd_same)), rfl, rfl, _, rfl, ite2 (fun _ => ⟨0, rfl, same_upd hp _⟩) (fun _ => ⟨_, rfl, same_upd hp _⟩)⟩⟩
            · rintro σ H5 ⟨k, rfl, s5⟩
              have hD5 := hD4.same s5
              have ok1 := Fok own hown
              refine ⟨_, rfl, _, rfl, _, rfl, _, rfl, d, c, fl, F.map V.str, rfl, hD5, .inl (s5 _ _ ef4), nfd, nfc, by rw [List.length_map]; omega, by rw [List.length_map]; omega, fun w1 H6 hw1 x6 hD6 => ?_⟩
              obtain ⟨other, ho, rfl⟩ := List.mem_map.mp hw1
              have ef6 := x6.but _ _ nfd nfc (s5 _ _ ef4)
              refine ⟨_, rfl, _, rfl, d, c, fl, F.map V.str, rfl, hD6, .inl ef6, nfd, nfc, by rw [List.length_map]; omega, by rw [List.length_map]; omega, fun w2 H7 hw2 x7 hD7 => ?_⟩
              obtain ⟨third, ht, rfl⟩ := List.mem_map.mp hw2
              refine ⟨k, own, other, third, rfl, ok1, Fok _ ho, Fok _ ht, fun l us H8 l0 s8 el il => ?_⟩
              have ef8 := s8 _ _ (x7.but _ _ nfd nfc ef6)
              have ec8 := s8 _ _ (x7.but _ _ ncd ncc (x6.but _ _ ncd ncc (s5 _ _ ec4)))
              have ic8 := ((((ic3.ex x4 hD3).same s5).ex x6 hD5).ex x7 hD6).same s8
              have im8 := ((((imk3.ex x4 hD3).same s5).ex x6 hD5).ex x7 hD6).same s8
              have x8 := ((((x3.trans x4).trans (.of s5)).trans x6).trans x7).trans (.of s8)
              have hD8 := hD7.same s8
              obtain ⟨sg, sl1, sl3⟩ := shape_ok (k := k) hown ho ht
              obtain ⟨nld, nlc⟩ := hD7.free l0
              have nlcl : l ≠ cl := (ne_of_none (x7.but _ _ ncd ncc (x6.but _ _ ncd ncc (s5 _ _ ec4))) l0).symm
              have nlfl : fl ≠ cl := nfl.symm
              generalize hrows : shape k own other third = rows at il sg sl1 sl3
              refine ⟨l, rfl, ⟨_, SqL.of el⟩, ?_⟩
              have cl3 : cs.length ≤ 9 := by omega
              have ulen := il.len
              rw [List.length_map] at ulen
              refine for_list (K := K) (a := l) (xs := us) (fun j σ H' => ∃ (y6 y7 : Option V) (vs' : List V) (cs' : List Con), σ = [some (.ref d), some (.ref mb), some (.ref fl), some (.ref cl), some (.str own), some (.int k), y6, y7] ∧ Is H' (.ref mb) (.tup mk) ∧ Dr H' d c ∧ Ex d c H H' ∧ H' fl = some (.lst (F.map V.str)) ∧ H' cl = some (.lst vs') ∧ H' l = some (.lst us) ∧ IsL H' us (rows.map rowPV) ∧ IsL H' vs' (cs'.map conPV) ∧ ConsG F cs' ∧ cs'.length = cs.length + j) ?_ ?_ ?_ ?_
              · exact ⟨_, _, vs, cs, rfl, im8, hD8, x8, ef8, ec8, el, il, ic8, G, rfl⟩
              · exact fun j σ H' _ ⟨_, _, _, _, _, _, _, _, _, _, e, _⟩ => SqL.of e
              · rintro j x σ H9 hxj ⟨y6, y7, vs', cs', rfl, im9, hD9, x9, ef9, ec9, el9, il9, ic9, G9, len9⟩
                obtain ⟨y, ey, iy⟩ := il9.get hxj
                have hj := (List.getElem?_eq_some_iff.mp hxj).1
                have hj3 : j < 3 := by omega
                obtain ⟨row, hrow, rfl⟩ := List.mem_map.mp (List.mem_of_getElem? ey)
                obtain ⟨a, rvs, rfl, ea, iL⟩ := iy.tup_inv
                cases iL with
                | @cons pv_ _ _ _ ip iL =>
                cases iL with
                | @cons iv _ _ _ ii iL =>
                cases iL
                have vlen := ic9.len
                rw [List.length_map] at vlen
                have l12 : vs'.length < 12 := by omega
                refine ⟨a, _, rfl, .inl (.inl ea), rfl, pv_, _, rfl, iv, _, rfl, rfl, ?_⟩
                refine ⟨_, rfl, .inl ⟨rfl, _, SqL.of ec9⟩, _, rfl, cl, vs', rfl, .inl (SqL.of ec9), _, rfl, num_log _ l12, _, _, rfl, rfl, num_len _ l12, _, rfl, _, rfl, _, rfl, (by show 4 ≤ sizeLine; decide), fun p hp => ?_⟩
                have sp := same_upd hp (.tup [.str (kw vs'.length), pv_, .str own, iv])
                have ecp := sp _ _ ec9
                refine ⟨cl, vs', _, rfl, rfl, ecp, small1000 (by omega), _, _, vs' ++ [.ref p], cs' ++ [⟨kw vs'.length, row.ps, own, row.ix⟩], rfl, (im9.same sp).wr ecp, (hD9.same sp).own ncd ncc, (x9.trans (.of sp)).own cfree _, by rw [upd_ne nlfl]; exact sp _ _ ef9, upd_same, by rw [upd_ne nlcl]; exact sp _ _ el9, (il9.same sp).wr ecp, ?_, ?_, by rw [List.length_append, len9]; rfl⟩
                · rw [List.map_append]
                  refine ((ic9.same sp).wr ecp).append (.cons ?_ .nil)
                  refine Is.wr ecp (.tup upd_same (.cons (.str _ (kw_ok _ l12)) (.cons (ip.same sp) (.cons (.str _ ok1) (.cons (ii.same sp) .nil)))))
                · refine ⟨fun i c hc => ?_, fun c hc => ?_⟩
                  · rcases Nat.lt_or_ge i cs'.length with h | h
                    · rw [List.getElem?_append_left h] at hc
                      exact G9.word i c hc
                    · rw [List.getElem?_append_right h] at hc
                      have : i - cs'.length = 0 := by
                        have := (List.getElem?_eq_some_iff.mp hc).1
                        simpa using this
                      rw [this] at hc
                      cases (Option.some.inj hc)
                      show kw vs'.length = kw i
                      rw [vlen]
                      congr 1
                      omega
                  · rcases List.mem_append.mp hc with h | h
                    · exact G9.row c h
                    · rw [List.mem_singleton.mp h]
                      exact ⟨sg row hrow, hown⟩
              · rintro σ H9 ⟨y6, y7, vs', cs', rfl, im9, hD9, x9, ef9, ec9, el9, il9, ic9, G9, len9⟩
                exact ⟨_, _, _, _, vs', cs', rfl, im9, hD9, x9, ef9, ec9, ic9, G9, by omega, by omega⟩
          · rintro σ H3 ⟨y4, y5, y6, y7, vs, cs, rfl, imk3, hD3, x3, ef3, ec3, ic3, G, c1, c3⟩
            rw [List.length_map] at c1 c3
            exact ⟨_, _, _, _, vs, cs, rfl, imk3, hD3, x3, ef3, ec3, ic3, G, by omega, by omega⟩
        · rintro σ H3 ⟨y4, y5, y6, y7, vs, cs, rfl, imk3, hD3, x3, ef3, ec3, ic3, G, c1, c12⟩
          refine ⟨_, rfl, _, rfl, fl, _, rfl, .inl ⟨SqL.of ef3, fun ft hft => ?_⟩⟩
          have s4 := same_upd hft (.tup (F.map V.str))
          refine ⟨_, rfl, cl, _, rfl, .inl ⟨SqL.of (s4 _ _ ec3), fun ct hct => ?_⟩⟩
          have s5 := same_upd hct (.tup vs)
          refine ⟨(by show 4 ≤ sizeLine; decide), fun tt htt => ?_⟩
          have s6 := same_upd htt (.tup [.str "table", .ref mb, .ref ft, .ref ct])
          have s456 := (s4.trans s5).trans s6
          have iF : ∀ G : List Str, (∀ z ∈ G, sok z = true) → IsL (upd (upd (upd H3 ft (.tup (F.map V.str))) ct (.tup vs)) tt (.tup [.str "table", .ref mb, .ref ft, .ref ct])) (G.map V.str) (G.map PV.str) := by
            intro G
            induction G with
            | nil => exact fun _ => .nil
            | cons z r ih => exact fun hz => .cons (.str z (hz z (List.mem_cons_self ..))) (ih fun y hy => hz y (List.mem_cons_of_mem _ hy))
          refine q _ _ mk F cs (.tup upd_same (.cons (.str _ (by decide +kernel)) (.cons (imk3.same s456) (.cons (.tup ((s5.trans s6) _ _ upd_same) (iF F Fok)) (.cons (.tup (s6 _ _ upd_same) (ic3.same s456)) .nil))))) ⟨G, ⟨c1, c12⟩, ⟨F2, F4⟩, Fok⟩ (x3.trans (.of s456)) (hD3.same s456)
end
end Kx
/-! The mathematics of fitting: what the program finds is what any way finds. -/
namespace Kx
open PySem PySem.Spec PyProof.Rows L2
abbrev AL := List (Str × PV)
def get (al : AL) (z : Str) : Option PV := (al.find? fun kv => kv.1 == z).map (·.2)
mutual
/-- putting -/
def psub (al : AL) : PV → PV
  | .str z => (get al z).getD (.str z)
  | .oth => .oth
  | .tup [] => .tup []
  | .tup (w :: r) => .tup (w :: psubL al r)
def psubL (al : AL) : List PV → List PV
  | [] => []
  | t :: r => psub al t :: psubL al r
end
theorem psubL_map (al : AL) : ∀ l : List PV, psubL al l = l.map (psub al)
  | [] => rfl
  | t :: r => by simp only [psubL, List.map_cons, psubL_map al r]
mutual
/-- a ground tree: no leaf is a name -/
def Gr : PV → Prop
  | .str _ => False
  | .oth => False
  | .tup [] => False
  | .tup (.oth :: _) => False
  | .tup (.tup _ :: _) => False
  | .tup (.str _ :: r) => GrL r
def GrL : List PV → Prop
  | [] => True
  | t :: r => Gr t ∧ GrL r
end
theorem gr_inv {t : PV} (h : Gr t) : ∃ w r, t = .tup (.str w :: r) ∧ GrL r := by
  cases t with
  | str _ => exact absurd h id
  | oth => exact absurd h id
  | tup l =>
    cases l with
    | nil => exact absurd h id
    | cons x r =>
      cases x with
      | oth => exact absurd h id
      | tup _ => exact absurd h id
      | str w => exact ⟨w, r, rfl, h⟩
theorem mem_GrL : ∀ {l : List PV}, GrL l → ∀ t ∈ l, Gr t
  | a :: r, h, t, ht => by
    rcases List.mem_cons.mp ht with rfl | ht
    · exact h.1
    · exact mem_GrL h.2 t ht
mutual
/-- fitting: whether it goes on, and what is found -/
noncomputable def fit (f : AL) : PV → PV → Bool × AL
  | .str z, t => match get f z with
    | some u => (one u t, f)
    | none => (true, f ++ [(z, t)])
  | .tup (.str w :: ps), .tup (.str w' :: ts) => if w = w' then fitL f ps ts else (false, f)
  | .tup _, _ => (false, f)
  | .oth, _ => (false, f)
noncomputable def fitL (f : AL) : List PV → List PV → Bool × AL
  | p :: ps, t :: ts => if (fit f p t).1 = true then fitL (fit f p t).2 ps ts else (false, (fit f p t).2)
  | _, _ => (true, f)
end
theorem get_append {f : AL} {z : Str} {t : PV} (h : get f z = none) (y : Str) : get (f ++ [(z, t)]) y = if y = z then some t else get f y := by
  unfold get at *
  rw [List.find?_append]
  by_cases e : y = z
  · subst e
    rw [if_pos rfl]
    have h' : f.find? (fun kv => kv.1 == y) = none := by
      cases q : f.find? (fun kv => kv.1 == y) with
      | none => rfl
      | some _ => rw [q] at h; cases h
    rw [h']
    simp
  · rw [if_neg e]
    have ne : ¬ z = y := fun q => e q.symm
    cases q : f.find? (fun kv => kv.1 == y) with
    | none => simp [ne]
    | some _ => simp
/-- g knows all that f knows -/
def Le (f g : AL) : Prop := ∀ z u, get f z = some u → get g z = some u
theorem Le.refl (f : AL) : Le f f := fun _ _ h => h
theorem Le.trans {f g h : AL} (a : Le f g) (b : Le g h) : Le f h := fun z u e => b z u (a z u e)
mutual
theorem fit_le : ∀ (p t : PV) (f : AL), Le f (fit f p t).2
  | .str z, t, f => by
    simp only [fit]
    cases h : get f z with
    | some u => exact .refl f
    | none =>
      intro y u e
      rw [get_append h]
      by_cases q : y = z
      · rw [q] at e; rw [h] at e; cases e
      · rw [if_neg q]; exact e
  | .oth, t, f => by simp only [fit]; exact .refl f
  | .tup [], t, f => by simp only [fit]; exact .refl f
  | .tup (.oth :: _), t, f => by simp only [fit]; exact .refl f
  | .tup (.tup _ :: _), t, f => by simp only [fit]; exact .refl f
  | .tup (.str w :: ps), .str _, f => by simp only [fit]; exact .refl f
  | .tup (.str w :: ps), .oth, f => by simp only [fit]; exact .refl f
  | .tup (.str w :: ps), .tup [], f => by simp only [fit]; exact .refl f
  | .tup (.str w :: ps), .tup (.oth :: _), f => by simp only [fit]; exact .refl f
  | .tup (.str w :: ps), .tup (.tup _ :: _), f => by simp only [fit]; exact .refl f
  | .tup (.str w :: ps), .tup (.str w' :: ts), f => by
    simp only [fit]
    split
    · exact fitL_le ps ts f
    · exact .refl f
theorem fitL_le : ∀ (ps ts : List PV) (f : AL), Le f (fitL f ps ts).2
  | [], _, f => by simp only [fitL]; exact .refl f
  | _ :: _, [], f => by simp only [fitL]; exact .refl f
  | p :: ps, t :: ts, f => by
    simp only [fitL]
    split
    · exact (fit_le p t f).trans (fitL_le ps ts _)
    · exact fit_le p t f
end
mutual
/-- what is found puts the pattern right -/
theorem fit_sound {mk : List (Str × Int)} (g : AL) : ∀ (p t : PV) (f : AL), form mk true p = true → form mk true t = true → (fit f p t).1 = true → Le (fit f p t).2 g → psub g p = t
  | .str z, t, f, _, _, h, hg => by
    simp only [fit] at h hg
    cases e : get f z with
    | some u =>
      rw [e] at h hg
      have := one_iff.mp h
      simp only [psub, hg z u e, Option.getD_some, this]
    | none =>
      rw [e] at hg
      have := hg z t (by rw [get_append e, if_pos rfl])
      simp only [psub, this, Option.getD_some]
  | .oth, _, _, h, _, _, _ => by simp [form] at h
  | .tup [], _, _, h, _, _, _ => by simp [form] at h
  | .tup (.oth :: _), _, _, h, _, _, _ => by simp [form] at h
  | .tup (.tup _ :: _), _, _, h, _, _, _ => by simp [form] at h
  | .tup (.str w :: ps), .str _, f, _, _, h, _ => by simp [fit] at h
  | .tup (.str w :: ps), .oth, f, _, _, h, _ => by simp [fit] at h
  | .tup (.str w :: ps), .tup [], f, _, _, h, _ => by simp [fit] at h
  | .tup (.str w :: ps), .tup (.oth :: _), f, _, _, h, _ => by simp [fit] at h
  | .tup (.str w :: ps), .tup (.tup _ :: _), f, _, _, h, _ => by simp [fit] at h
  | .tup (.str w :: ps), .tup (.str w' :: ts), f, h1, h2, h, hg => by
    simp only [fit] at h hg
    by_cases e : w = w'
    · subst e
      rw [if_pos rfl] at h hg
      simp only [form, Bool.and_eq_true, beq_iff_eq] at h1 h2
      have hl : ps.length = ts.length := by
        have := h1.1.symm.trans h2.1
        have := Option.some.inj this
        omega
      simp only [psub, fitL_sound g ps ts f hl h1.2 h2.2 h hg]
    · rw [if_neg e] at h; cases h
theorem fitL_sound {mk : List (Str × Int)} (g : AL) : ∀ (ps ts : List PV) (f : AL), ps.length = ts.length → formL mk true ps = true → formL mk true ts = true → (fitL f ps ts).1 = true → Le (fitL f ps ts).2 g → psubL g ps = ts
  | [], [], _, _, _, _, _, _ => rfl
  | p :: ps, t :: ts, f, hl, h1, h2, h, hg => by
    simp only [fitL] at h hg
    simp only [formL, Bool.and_eq_true] at h1 h2
    by_cases e : (fit f p t).1 = true
    · rw [if_pos e] at h hg
      have a := fit_sound g p t f h1.1 h2.1 e ((fitL_le ps ts _).trans hg)
      have b := fitL_sound g ps ts _ (by simpa using hl) h1.2 h2.2 h hg
      simp only [psubL, a, b]
    · rw [if_neg e] at h; cases h
end
mutual
/-- if any assignment puts the pattern right, it is found, and nothing else -/
theorem fit_complete (g : AL) : ∀ (p t : PV) (f : AL), Tm p → Gr t → Le f g → psub g p = t → (fit f p t).1 = true ∧ Le (fit f p t).2 g
  | .str z, t, f, _, ht, hf, e => by
    simp only [psub] at e
    simp only [fit]
    have hz : get g z = some t := by
      cases q : get g z with
      | none =>
        rw [q] at e
        have e2 : PV.str z = t := e
        rw [← e2] at ht
        exact absurd ht id
      | some u => rw [q] at e; exact congrArg some e
    cases q : get f z with
    | some u =>
      have := hf z u q
      rw [hz] at this
      exact ⟨one_iff.mpr (Option.some.inj this).symm, hf⟩
    | none =>
      refine ⟨rfl, fun y u hy => ?_⟩
      rw [get_append q] at hy
      split at hy
      · rename_i h; rw [h, hz]; exact hy
      · exact hf y u hy
  | .oth, _, _, h, _, _, _ => absurd h id
  | .tup [], _, _, h, _, _, _ => absurd h id
  | .tup (.oth :: _), _, _, h, _, _, _ => absurd h id
  | .tup (.tup _ :: _), _, _, h, _, _, _ => absurd h id
  | .tup (.str w :: ps), t, f, hp, ht, hf, e => by
    simp only [psub] at e
    subst e
    simp only [fit, if_true]
    exact fitL_complete g ps _ f hp ht hf rfl
theorem fitL_complete (g : AL) : ∀ (ps ts : List PV) (f : AL), TmL ps → GrL ts → Le f g → psubL g ps = ts → (fitL f ps ts).1 = true ∧ Le (fitL f ps ts).2 g
  | [], ts, f, _, _, hf, e => by subst e; simp only [psubL, fitL]; exact ⟨trivial, hf⟩
  | p :: ps, ts, f, hp, ht, hf, e => by
    subst e
    simp only [psubL] at ht ⊢
    simp only [fitL]
    obtain ⟨a, b⟩ := fit_complete g p _ f hp.1 ht.1 hf rfl
    rw [if_pos a]
    exact fitL_complete g ps _ _ hp.2 ht.2 b rfl
end
end Kx
namespace Kx
open PySem PySem.Spec PyProof.Rows L2
section
variable {P : Program} {w : World} {K : PySem.W.Frag} {mg : Str → Option Value} {base : Heap}
def Ar (mk : List (Str × Int)) : Prop := ∀ w k, look mk w = some k → k ≤ 2
/-- the dict at p stands for the assignment -/
def AsD (H : Hp) (p : Addr) (al : AL) : Prop := ∃ kvs : List (Key × V), H p = some (.dK kvs) ∧ Paired (fun kv zt => kv.1 = Sum.inr zt.1 ∧ Is H kv.2 zt.2) kvs al
theorem pair_val {H : Hp} (z : Str) : ∀ {kvs : List (Key × V)} {al : AL}, Paired (fun kv zt => kv.1 = Sum.inr zt.1 ∧ Is H kv.2 zt.2) kvs al → (valV kvs (Sum.inr z) = none ∧ get al z = none) ∨ ∃ v t, valV kvs (Sum.inr z) = some v ∧ get al z = some t ∧ Is H v t
  | _, _, .nil => .inl ⟨rfl, rfl⟩
  | _, _, .cons (a := kv) (b := zt) ⟨e, h⟩ t => by
    by_cases q : zt.1 = z
    · exact .inr ⟨kv.2, zt.2, valV_pos (by rw [e, q]), by simp [Kx.get, q], h⟩
    · rw [valV_neg (by rw [e]; intro x; exact q (Sum.inr.inj x))]
      rcases pair_val z t with ⟨a, b⟩ | ⟨v, u, a, b, c⟩
      · exact .inl ⟨a, by simpa [Kx.get, q] using b⟩
      · exact .inr ⟨v, u, a, by simpa [Kx.get, q] using b, c⟩
theorem AsD.same {H H' : Hp} {p : Addr} {al : AL} (h : AsD H p al) (s : Same H H') : AsD H' p al := by
  obtain ⟨kvs, a, b⟩ := h
  exact ⟨kvs, s _ _ a, Paired.imp b fun _ _ ⟨x, y⟩ => ⟨x, y.same s⟩⟩
theorem pair_snoc {α β : Type} {F : α → β → Prop} : ∀ {l : List α} {m : List β} {x : α} {y : β}, Paired F l m → F x y → Paired F (l ++ [x]) (m ++ [y])
  | _, _, _, _, .nil, h => .cons h .nil
  | _, _, _, _, .cons a t, h => .cons a (pair_snoc t h)
theorem form_inv {mk : List (Str × Int)} (ar : Ar mk) {H : Hp} {v : V} {t : PV} (hI : Is H v t) (hT : form mk true t = true) (c : isStr t = false) : ∃ a w vs ts, v = .ref a ∧ t = .tup (.str w :: ts) ∧ H a = some (.tup (.str w :: vs)) ∧ IsL H vs ts ∧ sok w = true ∧ look mk w = some (ts.length : Int) ∧ ts.length ≤ 2 ∧ formL mk true ts = true := by
  cases t with
  | str z => cases c
  | oth => simp [form] at hT
  | tup l =>
    obtain ⟨a, vs, rfl, ea, hL⟩ := hI.tup_inv
    cases hL with
    | nil => simp [form] at hT
    | @cons x xs y ys h0 hL =>
      cases h0 with
      | str z k =>
        simp only [form, Bool.and_eq_true, beq_iff_eq] at hT
        have := ar _ _ hT.1
        exact ⟨a, z, _, ys, rfl, rfl, ea, hL, k, hT.1, by omega, hT.2⟩
      | non => simp [form] at hT
      | bl _ => simp [form] at hT
      | int _ => simp [form] at hT
      | lst _ => simp [form] at hT
      | dict _ => simp [form] at hT
      | tup _ _ => simp [form] at hT
theorem psubL_take {al : AL} {ts : List PV} {i : Nat} {y : PV} (h : ts[i]? = some y) : psubL al (ts.take (i + 1)) = psubL al (ts.take i) ++ [psub al y] := by
  obtain ⟨hi, e⟩ := List.getElem?_eq_some_iff.mp h
  rw [List.take_succ_eq_append_getElem hi, e, psubL_map, psubL_map, List.map_append]
  rfl
theorem dep_cons (w : Str) (ts : List PV) : dep (.tup (.str w :: ts)) = 1 + max 1 (depL ts) := by simp only [dep, depL]
theorem formL_mem {mk : List (Str × Int)} {nm : Bool} {l : List PV} (h : formL mk nm l = true) : ∀ t ∈ l, form mk nm t = true := by
  rw [formL_all] at h
  exact fun t ht => List.all_eq_true.mp h t ht
def spPut (n : Nat) : Sp := fun vs H Q _ => ∃ (p : Addr) (mk : List (Str × Int)) (v : V) (t : PV) (al : AL), vs = [v, .ref p] ∧ AsD H p al ∧ Is H v t ∧ Ar mk ∧ form mk true t = true ∧ dep t ≤ n ∧ ∀ v' H', Same H H' → Is H' v' (psub al t) → Q v' H'
theorem ok_put {n : Nat} (T : Txt K mg) (G_put : FnOk P w K mg base CX0 (n+1) T.a_put T.d_put ["term", "assignment"] (spPut n)) : FnOk P w K mg base CX0 (n+2) T.a_put T.d_put ["term", "assignment"] (spPut (n+1)) := by
  refine T.F_put.ok sc_put (fun vs H Q E h => ?_) (fun cdv A outer s H vs Q E hr h => ?_)
  · obtain ⟨p, mk, v, t, al, rfl, _⟩ := h; rfl
  · obtain ⟨p, mk, v, t, al, rfl, hA, hI, ar, hW, hn, q⟩ := h
    have hu := hu_of hr
    have hr_put := hr
    refine ⟨_, (pss_cons (ps_if (pt_val (pe_callB call_isi (by rfl) T.z_isinstance (by decide +kernel) (pa_cons (pv 0) (pa_cons (pe_bltn rfl T.z_str (by decide +kernel) (show RelV (V.ty "str") (Value.type "str") from rfl)) pa_nil)))) (pss_one (ps_ret (pe_dget2 hu (pv 1) (pv 0) (pv 0) ⟨rfl, rfl, rfl, rfl⟩))) pss_nil)
    (pss_cons (ps_set (i := 2) sc_put.nd rfl (Or.inl rfl) (pe_lst (pa_cons (pe_ix ix_tup (pv 0) pe_int (fun _ _ => rfl)) pa_nil)))
    (pss_cons (ps_for PassesOwn.never rfl (pi_tup (pe_slice sl_tup (pv 0) (po_some pe_int) po_none)) (pg_name (i := 3) sc_put.nd rfl (Or.inl rfl))
    (pss_one (ps_expr (pe_bm PySem.F.plainAttrs_list PySem.F.slot_list_append PySem.F.type_list_append mt_append (pv 2) (pa_cons (pe_call G_put hr_put rfl T.m_put T.F_put.kp T.b_put .nil pass0 (pa_cons (pv 3) (pa_cons (pv 1) pa_nil))) pa_nil)))))
    (pss_one (ps_ret (pe_callTy call_tuple_of (by rfl) T.z_tuple (by decide +kernel) (pa_cons (pv 2) pa_nil))))))), ?_⟩
    obtain ⟨u, ty, kt⟩ := hI.ty (K := K)
    refine ⟨_, rfl, _, _, u, _, _, rfl, .ty _, ty, kit_str kt, _, rfl, ite2 (fun c => ?_) (fun c => ?_)⟩
    · cases t with
      | oth => cases c
      | tup ts => cases c
      | str z =>
      have iz := hI
      cases hI with
      | str z k =>
      obtain ⟨kvs, e, b⟩ := hA
      refine ⟨_, rfl, p, rfl, .inl ⟨_, .of e⟩, _, rfl, _, rfl, _, DGet.k (k := Sum.inr z) e, ?_⟩
      rcases pair_val z b with ⟨a, b⟩ | ⟨v, t, a, b, hI⟩
      · rw [a]
        exact q _ H (.refl _) (by simp only [psub, b]; exact .str z k)
      · rw [a]
        exact q _ H (.refl _) (by simp only [psub, b]; exact hI)
    · obtain ⟨a, w, vs, ts, rfl, rfl, ea, hL, kw, lk, l2, hWl⟩ := form_inv ar hI hW (Bool.eq_false_iff.mpr c)
      have hlen := hL.len
      rw [dep_cons] at hn
      refine ⟨_, rfl, a, _, _, _, rfl, rfl, .inl (.inl ea), atI_nat (j := 0) rfl, (by show 1 ≤ sizeLine; decide), fun il hil => ?_⟩
      have s0 := same_upd hil (.lst [.str w])
      refine ⟨_, rfl, _, rfl, a, _, rfl, .inl (.inl (s0 _ _ ea)), slice1, fun p1 h1 => ?_⟩
      rw [cut1]
      have s1 := same_upd h1 (.tup vs)
      have s01 := s0.trans s1
      have n1 : il ≠ p1 := ne_of_none upd_same h1
      refine ⟨p1, rfl, ⟨_, .inl (.inl upd_same)⟩, ?_⟩
      refine for_tup (K := K) (a := p1) (xs := vs) (fun i σ H2 => ∃ y3 ws, σ = [some (.ref a), some (.ref p), some (.ref il), y3] ∧ Same H H2 ∧ H2 p1 = some (.tup vs) ∧ H2 il = some (.lst (.str w :: ws)) ∧ IsL H2 ws (psubL al (ts.take i)) ∧ ws.length = i) ?_ ?_ ?_ ?_
      · exact ⟨none, [], rfl, s01, upd_same, by rw [upd_ne n1, upd_same], .nil, rfl⟩
      · exact fun i σ H2 _ ⟨_, _, _, _, e, _⟩ => .inl (.inl e)
      · intro i x σ H2 hx ⟨y3, ws, es, sm, e1, el, hW2, wl⟩
        subst es
        obtain ⟨y, ey, hy⟩ := hL.get hx
        have hm := List.mem_of_getElem? ey
        have dy := depL_mem hm
        refine ⟨_, rfl, .inl ⟨rfl, _, SqL.of el⟩, _, rfl, _, rfl, p, mk, x, y, al, rfl, hA.same sm, hy.same sm, ar, formL_mem hWl y hm, by omega, fun v' H3 s3 hv' => ?_⟩
        have hi := (List.getElem?_eq_some_iff.mp hx).1
        refine ⟨il, _, _, rfl, rfl, s3 _ _ el, ?_, ?_⟩
        · rw [List.length_cons]; exact small1000 (by omega)
        · refine ⟨_, ws ++ [v'], rfl, Kx.Same.own (sm.trans s3) hil _, ?_, by rw [upd_same]; rfl, ?_, by rw [List.length_append, wl]; rfl⟩
          · rw [upd_ne n1.symm]; exact s3 _ _ e1
          · rw [psubL_take ey]
            exact ((hW2.same s3).append (.cons hv' .nil)).wr (s3 _ _ el)
      · intro σ H2 ⟨y3, ws, es, sm, e1, el, hW2, wl⟩
        subst es
        rw [hlen, List.take_length] at hW2
        refine ⟨_, rfl, il, _, rfl, .inl ⟨SqL.of el, fun l hl => ?_⟩⟩
        have s5 := same_upd hl (.tup (.str w :: ws))
        exact q _ _ (sm.trans s5) (by simp only [psub]; exact .tup upd_same (.cons (.str w kw) (hW2.same s5)))
end
end Kx
namespace Kx
open PySem PySem.Spec PyProof.Rows L2
section
variable {P : Program} {w : World} {K : PySem.W.Frag} {mg : Str → Option Value} {base : Heap}
/-- x == y, two trees: exactly -/
def rTmX : R2 := fun x y H Q => ∃ ts us, Is H x (.tup ts) ∧ Tm (.tup ts) ∧ dep (.tup ts) ≤ 100 ∧ Is H y (.tup us) ∧ Q (.bl (one (.tup ts) (.tup us))) H
theorem op_tmx {X : Cx} (hu : X.A.units + 101 < cLine) : OpR X (compareOp .Eq) rTmX := by
  intro pins s σ H x y v u Q I rx ry h
  obtain ⟨ts, us, ha, ta, hc, hb, q⟩ := h
  obtain ⟨p, _, rfl, _⟩ := ha.tup_inv
  obtain ⟨p2, _, rfl, _⟩ := hb.tup_inv
  cases (show v = Value.ref p from rx)
  cases (show u = Value.ref p2 from ry)
  exact rc_term I hu hc ha ta hb _ _ _ _ ⟨.bl _, H, I, rfl, q⟩
mutual
theorem gr_tm : ∀ {t : PV}, Gr t → Tm t
  | .str _, h => absurd h id
  | .oth, h => absurd h id
  | .tup [], h => absurd h id
  | .tup (.oth :: _), h => absurd h id
  | .tup (.tup _ :: _), h => absurd h id
  | .tup (.str w :: r), h => grL_tm h
theorem grL_tm : ∀ {l : List PV}, GrL l → TmL l
  | [], _ => trivial
  | t :: r, h => ⟨gr_tm h.1, grL_tm h.2⟩
end
/-- all but the dict at f stands -/
def ExD (f : Addr) (H H' : Hp) : Prop := ∀ b o, b ≠ f → H b = some o → H' b = some o
theorem ExD.refl (f : Addr) (H : Hp) : ExD f H H := fun _ _ _ h => h
theorem ExD.trans {f : Addr} {H H1 H2 : Hp} (a : ExD f H H1) (b : ExD f H1 H2) : ExD f H H2 := fun c o n h => b c o n (a c o n h)
theorem ExD.of {f : Addr} {H H' : Hp} (s : Same H H') : ExD f H H' := fun b o _ h => s b o h
theorem ExD.set {f : Addr} {H : Hp} (o : HO) : ExD f H (upd H f o) := fun b u n h => by rw [upd_ne n]; exact h
def isD (H : Hp) (f : Addr) : Prop := ∃ kvs : List (Key × V), H f = some (.dK kvs)
theorem ExD.tup {f : Addr} {H H' : Hp} (x : ExD f H H') (hf : isD H f) {a : Addr} {vs : List V} (e : H a = some (.tup vs)) : H' a = some (.tup vs) := x a _ (fun q => by
  subst q
  obtain ⟨kvs, h⟩ := hf
  rw [e] at h
  cases h) e
mutual
theorem Is.exD {f : Addr} {H H' : Hp} (x : ExD f H H') (hf : isD H f) : ∀ {v : V} {t : PV}, Tm t → Is H v t → Is H' v t
  | _, _, _, .str z k => .str z k
  | _, _, h, .non => absurd h id
  | _, _, h, .bl _ => absurd h id
  | _, _, h, .int _ => absurd h id
  | _, _, h, .lst _ => absurd h id
  | _, _, h, .dict _ => absurd h id
  | _, .tup [], h, .tup e i => absurd h id
  | _, .tup (.oth :: _), h, .tup e i => absurd h id
  | _, .tup (.tup _ :: _), h, .tup e i => absurd h id
  | _, .tup (.str w :: r), h, .tup e (.cons (.str _ k) i) => .tup (x.tup hf e) (.cons (.str w k) (IsL.exD x hf h i))
theorem IsL.exD {f : Addr} {H H' : Hp} (x : ExD f H H') (hf : isD H f) : ∀ {v : List V} {t : List PV}, TmL t → IsL H v t → IsL H' v t
  | _, _, _, .nil => .nil
  | _, _, h, .cons a r => .cons (Is.exD x hf h.1 a) (IsL.exD x hf h.2 r)
end
theorem AsD.isD {H : Hp} {p : Addr} {al : AL} (h : AsD H p al) : isD H p := let ⟨kvs, e, _⟩ := h; ⟨kvs, e⟩
/-- what is found is ground, and not deep -/
def AlOk (al : AL) : Prop := ∀ kv ∈ al, Gr kv.2 ∧ dep kv.2 ≤ 60
theorem Paired.both {α β : Type} {F G : α → β → Prop} : ∀ {l : List α} {m : List β}, Paired F l m → (∀ b ∈ m, ∀ a, F a b → G a b) → Paired G l m
  | _, _, .nil, _ => .nil
  | _, _, .cons h t, f => .cons (f _ (List.mem_cons_self ..) _ h) (Paired.both t fun b hb => f b (List.mem_cons_of_mem _ hb))
theorem AsD.put {H : Hp} {p : Addr} {al : AL} {kvs : List (Key × V)} {z : Str} {v : V} {t : PV} (ok : AlOk al) (ht : Gr t) (e : H p = some (.dK kvs)) (b : Paired (fun kv zt => kv.1 = Sum.inr zt.1 ∧ Is H kv.2 zt.2) kvs al) (n : valV kvs (Sum.inr z) = none) (h : Is H v t) :
    AsD (upd H p (.dK (putK kvs (Sum.inr z) v))) p (al ++ [(z, t)]) := by
  have x : ExD p H (upd H p (.dK (putK kvs (Sum.inr z) v))) := .set _
  refine ⟨_, upd_same, ?_⟩
  rw [putK_new _ n] at x ⊢
  exact pair_snoc (Paired.both b fun zt hz _ ⟨q, y⟩ => ⟨q, Is.exD x ⟨_, e⟩ (gr_tm (ok zt hz).1) y⟩) ⟨rfl, Is.exD x ⟨_, e⟩ (gr_tm ht) h⟩
mutual
/-- how many names stand in it -/
def lc : PV → Nat
  | .str _ => 1
  | .oth => 0
  | .tup [] => 0
  | .tup (_ :: r) => lcL r
def lcL : List PV → Nat
  | [] => 0
  | t :: r => lc t + lcL r
end
theorem fit_other {al : AL} {w : Str} {ps : List PV} {z : Str} : fit al (.tup (.str w :: ps)) (.str z) = (false, al) := by simp [fit]
theorem fit_tups {al : AL} {w w' : Str} {ps ts : List PV} : fit al (.tup (.str w :: ps)) (.tup (.str w' :: ts)) = if w = w' then fitL al ps ts else (false, al) := by rw [fit]
theorem fitL_nil {al : AL} {ts : List PV} : fitL al [] ts = (true, al) := by cases ts <;> simp [fitL]
theorem fitL_cons {al : AL} {p t : PV} {ps ts : List PV} : fitL al (p :: ps) (t :: ts) = if (fit al p t).1 = true then fitL (fit al p t).2 ps ts else (false, (fit al p t).2) := by rw [fitL]
mutual
/-- the values that are found are not deeper than the terms -/
theorem fit_dep : ∀ (p t : PV) (f : AL), (Gr t ∧ dep t ≤ 60) → AlOk f → AlOk (fit f p t).2
  | .str z, t, f, ht, hf => by
    unfold fit
    cases h : Kx.get f z with
    | some u => exact hf
    | none =>
      intro kv hk
      rcases List.mem_append.mp hk with hk | hk
      · exact hf kv hk
      · rw [List.mem_singleton.mp hk]; exact ht
  | .tup (.str w :: ps), .tup (.str w' :: ts), f, ht, hf => by
    rw [fit_tups]
    split
    · obtain ⟨h1, h2⟩ := ht
      simp only [dep, depL] at h2
      exact fitL_dep ps ts f ⟨h1, by omega⟩ hf
    · exact hf
  | .tup (.str w :: ps), .str _, f, _, hf => by simp only [fit]; exact hf
  | .tup (.str w :: ps), .oth, f, _, hf => by simp only [fit]; exact hf
  | .tup (.str w :: ps), .tup [], f, _, hf => by simp only [fit]; exact hf
  | .tup (.str w :: ps), .tup (.oth :: _), f, _, hf => by simp only [fit]; exact hf
  | .tup (.str w :: ps), .tup (.tup _ :: _), f, _, hf => by simp only [fit]; exact hf
  | .tup [], t, f, _, hf => by cases t <;> (simp only [fit]; exact hf)
  | .tup (.oth :: _), t, f, _, hf => by cases t <;> (simp only [fit]; exact hf)
  | .tup (.tup _ :: _), t, f, _, hf => by cases t <;> (simp only [fit]; exact hf)
  | .oth, t, f, _, hf => by cases t <;> (simp only [fit]; exact hf)
theorem fitL_dep : ∀ (ps ts : List PV) (f : AL), (GrL ts ∧ depL ts ≤ 60) → AlOk f → AlOk (fitL f ps ts).2
  | p :: ps, t :: ts, f, ht, hf => by
    obtain ⟨h1, h2⟩ := ht
    simp only [depL] at h2
    have a := fit_dep p t f ⟨h1.1, by omega⟩ hf
    rw [fitL_cons]
    split
    · exact fitL_dep ps ts _ ⟨h1.2, by omega⟩ a
    · exact a
  | [], t, f, _, hf => by rw [fitL_nil]; exact hf
  | _ :: _, [], f, _, hf => by simp only [fitL]; exact hf
end
mutual
theorem fit_len : ∀ (p t : PV) (f : AL), (fit f p t).2.length ≤ f.length + lc p
  | .str z, t, f => by
    unfold fit
    cases h : Kx.get f z with
    | some u => simp
    | none => simp [lc]
  | .tup (.str w :: ps), .tup (.str w' :: ts), f => by
    rw [fit_tups]
    split
    · have := fitL_len ps ts f
      simp only [lc]; exact this
    · simp
  | .tup (.str w :: ps), .str _, f => by simp [fit]
  | .tup (.str w :: ps), .oth, f => by simp [fit]
  | .tup (.str w :: ps), .tup [], f => by simp [fit]
  | .tup (.str w :: ps), .tup (.oth :: _), f => by simp [fit]
  | .tup (.str w :: ps), .tup (.tup _ :: _), f => by simp [fit]
  | .tup [], t, f => by cases t <;> simp [fit]
  | .tup (.oth :: _), t, f => by cases t <;> simp [fit]
  | .tup (.tup _ :: _), t, f => by cases t <;> simp [fit]
  | .oth, t, f => by cases t <;> simp [fit]
theorem fitL_len : ∀ (ps ts : List PV) (f : AL), (fitL f ps ts).2.length ≤ f.length + lcL ps
  | p :: ps, t :: ts, f => by
    have a := fit_len p t f
    rw [fitL_cons]
    split
    · have b := fitL_len ps ts (fit f p t).2
      simp only [lcL]; omega
    · simp only [lcL]; omega
  | [], t, f => by rw [fitL_nil]; simp [lcL]
  | _ :: _, [], f => by simp [fitL]
end
theorem lcL_get : ∀ {l : List PV} {t : PV} {i : Nat}, l[i]? = some t → lcL (l.drop i) = lc t + lcL (l.drop (i + 1)) := by
  intro l t i h
  obtain ⟨hi, e⟩ := List.getElem?_eq_some_iff.mp h
  rw [List.drop_eq_getElem_cons hi, e]
  simp only [lcL]
/-- where a walk over both lists stands -/
structure Mid (al0 : AL) (ps ts : List PV) (i : Nat) (al : AL) : Prop where
  eq : fitL al0 ps ts = fitL al (ps.drop i) (ts.drop i)
  dp : AlOk al
  few : al.length + lcL (ps.drop i) ≤ 100000
theorem Mid.turn {al0 al : AL} {ps ts : List PV} {i : Nat} {p t : PV} (h : Mid al0 ps ts i al) (hp : ps[i]? = some p) (ht : ts[i]? = some t) (d : Gr t ∧ dep t ≤ 60) :
    ((fit al p t).1 = true → Mid al0 ps ts (i + 1) (fit al p t).2) ∧ ((fit al p t).1 = false → fitL al0 ps ts = (false, (fit al p t).2)) := by
  obtain ⟨hi, e⟩ := List.getElem?_eq_some_iff.mp hp
  obtain ⟨hj, e2⟩ := List.getElem?_eq_some_iff.mp ht
  have hq := h.eq
  rw [List.drop_eq_getElem_cons hi, List.drop_eq_getElem_cons hj, e, e2, fitL_cons] at hq
  have hf := h.few
  rw [lcL_get hp] at hf
  have hl := fit_len p t al
  refine ⟨fun c => ⟨?_, fit_dep p t al d h.dp, by omega⟩, fun c => ?_⟩
  · rw [hq, if_pos c]
  · rw [hq, if_neg (by rw [c]; exact Bool.false_ne_true)]
theorem Mid.end_ {al0 al : AL} {ps ts : List PV} (h : Mid al0 ps ts ps.length al) : fitL al0 ps ts = (true, al) := by
  have hq := h.eq
  rw [List.drop_length] at hq
  rw [hq, fitL_nil]
def spFit (n : Nat) : Sp := fun vs H Q _ => ∃ (f : Addr) (mk : List (Str × Int)) (v u : V) (p t : PV) (al : AL), vs = [v, u, .ref f] ∧ AsD H f al ∧ Is H v p ∧ Is H u t ∧ Ar mk ∧ form mk true p = true ∧ form mk true t = true ∧ Gr t ∧ dep p ≤ n ∧ dep t ≤ 60 ∧ AlOk al ∧ al.length + lc p ≤ 100000 ∧
  ∀ H', ExD f H H' → AsD H' f (fit al p t).2 → Q (.bl (fit al p t).1) H'
theorem ok_fits {n : Nat} (T : Txt K mg) (G_fits : FnOk P w K mg base CX0 (n+1) T.a_fits T.d_fits ["pattern", "term", "found"] (spFit n)) : FnOk P w K mg base CX0 (n+2) T.a_fits T.d_fits ["pattern", "term", "found"] (spFit (n+1)) := by
  refine T.F_fits.ok sc_fits (fun vs H Q E h => ?_) (fun cdv A outer s H vs Q E hr h => ?_)
  · obtain ⟨f, mk, v, u, p, t, al, rfl, _⟩ := h; rfl
  · obtain ⟨f, mk, v, u, p, t, al, rfl, hA, hI, hJ, ar, hW, hX, hG, hn, h60, hd, hl, q⟩ := h
    have hu := hu_of hr
    have hr_fits := hr
    refine ⟨_, (pss_cons (ps_if (pt_val (pe_callB call_isi (by rfl) T.z_isinstance (by decide +kernel) (pa_cons (pv 0) (pa_cons (pe_bltn rfl T.z_str (by decide +kernel) (show RelV (V.ty "str") (Value.type "str") from rfl)) pa_nil)))) (pss_one (ps_ret (pe_cmpR (op_tmx (u101 hr)) (pe_dsetd (pv 2) (pv 0) (pv 1) ⟨rfl, rfl, rfl, rfl⟩) (pv 1) (nomark _)))) pss_nil)
    (pss_cons (ps_if (PW.pt (pw_or (pt_val (pe_callB call_isi (by rfl) T.z_isinstance (by decide +kernel) (pa_cons (pv 1) (pa_cons (pe_bltn rfl T.z_str (by decide +kernel) (show RelV (V.ty "str") (Value.type "str") from rfl)) pa_nil)))) (pw_or1 (pt_cmpR op_ne (pe_ix ix_tup (pv 0) pe_int (fun _ _ => rfl)) (pe_ix ix_tup (pv 1) pe_int (fun _ _ => rfl)) (nomark _))))) (pss_one (ps_ret pe_bl)) pss_nil)
    (pss_cons (ps_for PassesOwn.never rfl (RZ.pi_zipA (by rfl) T.z_zip (pa_cons (pe_slice sl_tup (pv 0) (po_some pe_int) po_none) (pa_cons (pe_slice sl_tup (pv 1) (po_some pe_int) po_none) pa_nil))) (pg_tup rfl (pgs_cons (pg_name (i := 3) sc_fits.nd rfl (Or.inl rfl)) (pgs_cons (pg_name (i := 4) sc_fits.nd rfl (Or.inl rfl)) pgs_nil)))
    (pss_one (ps_if (pt_not (pt_val (pe_call G_fits hr_fits rfl T.m_fits T.F_fits.kp T.b_fits .nil pass0 (pa_cons (pv 3) (pa_cons (pv 4) (pa_cons (pv 2) pa_nil)))))) (pss_one (ps_ret pe_bl)) pss_nil)))
    (pss_one (ps_ret pe_bl))))), ?_⟩
    obtain ⟨y, ty, kt⟩ := hI.ty (K := K)
    refine ⟨_, rfl, _, _, y, _, _, rfl, .ty _, ty, kit_str kt, _, rfl, ite2 (fun c => ?_) (fun c => ?_)⟩
    · cases p with
      | oth => cases c
      | tup ts => cases c
      | str z =>
      cases hI with
      | str z k =>
      obtain ⟨wt, rt, et, hGr⟩ := gr_inv hG
      obtain ⟨kvs, e, ek, b⟩ : ∃ kvs : List (Key × V), H f = some (.dK kvs) ∧ kvs.length = al.length ∧ Paired (fun kv zt => kv.1 = Sum.inr zt.1 ∧ Is H kv.2 zt.2) kvs al := by
        obtain ⟨kvs, e, b⟩ := hA
        exact ⟨kvs, e, Paired.length b, b⟩
      refine ⟨_, rfl, f, rfl, .inl ⟨_, .of e⟩, _, rfl, _, rfl, kvs, Sum.inr z, e, rfl, ?_, fun v0 hv0 => ?_, fun hv0 => ?_⟩
      · rw [ek]; exact Nat.lt_of_le_of_lt (show al.length ≤ 100000 by omega) (by decide)
      · rcases pair_val z b with ⟨a, _⟩ | ⟨v1, t1, a, g, hI1⟩
        · rw [a] at hv0; cases hv0
        · rw [a] at hv0
          cases (Option.some.inj hv0)
          have d1 : Gr t1 ∧ dep t1 ≤ 60 := by
            unfold Kx.get at g
            cases qf : al.find? (fun kv => kv.1 == z) with
            | none => rw [qf] at g; cases g
            | some kv =>
              rw [qf] at g
              cases (Option.some.inj g)
              exact hd kv (List.mem_of_find?_eq_some qf)
          have ef : fit al (.str z) t = (one t1 t, al) := by simp only [fit, g]
          rw [ef] at q
          obtain ⟨w1, r1, e1, _⟩ := gr_inv d1.1
          subst e1 et
          exact ⟨_, rfl, _, _, hI1, gr_tm d1.1, by omega, hJ, q H (.refl _ _) hA⟩
      · rcases pair_val z b with ⟨a, g⟩ | ⟨v1, t1, a, g, hI1⟩
        · have ef : fit al (.str z) t = (true, al ++ [(z, t)]) := by simp only [fit, g]
          rw [ef] at q
          have x : ExD f H (upd H f (.dK (putK kvs (Sum.inr z) u))) := .set _
          have hJ2 := Is.exD x ⟨_, e⟩ (gr_tm hG) hJ
          have put := AsD.put hd hG e b hv0 hJ
          subst et
          refine ⟨_, rfl, _, _, hJ2, gr_tm hG, by omega, hJ2, ?_⟩
          rw [one_self]
          exact q _ x put
        · rw [a] at hv0; cases hv0
    · obtain ⟨a, w, vs, ps, rfl, rfl, ea, hL, kw, lk, l2, hWl⟩ := form_inv ar hI hW (Bool.eq_false_iff.mpr c)
      have hlen := hL.len
      rw [dep_cons] at hn
      obtain ⟨y2, ty2, kt2⟩ := hJ.ty (K := K)
      refine ⟨_, rfl, _, _, y2, _, _, rfl, .ty _, ty2, kit_str kt2, _, rfl, ite2 (fun c2 => ?_) (fun c2 => ?_)⟩
      · cases t with
        | oth => cases c2
        | tup ts => cases c2
        | str z =>
          rw [fit_other] at q
          exact iteT (q H (.refl _ _) hA)
      · obtain ⟨a2, w2, vs2, ts, rfl, rfl, ea2, hL2, kw2, lk2, l22, hWl2⟩ := form_inv ar hJ hX (Bool.eq_false_iff.mpr c2)
        have hlen2 := hL2.len
        rw [dep_cons] at h60
        refine ⟨_, rfl, a, _, _, _, rfl, rfl, .inl (.inl ea), atI_nat (j := 0) rfl, _, rfl, a2, _, _, _, rfl, rfl, .inl (.inl ea2), atI_nat (j := 0) rfl, rfl, _, rfl, ?_⟩
        rw [fit_tups] at q
        by_cases ew : w = w2
        case neg =>
          rw [if_neg ew] at q
          refine ite2 (fun _ => q H (.refl _ _) hA) (fun c3 => ?_)
          exfalso
          apply c3
          show (!decide (V.str w = V.str w2)) = true
          rw [decide_eq_false (fun e => ew (V.str.inj e))]
          rfl
        rw [if_pos ew] at q
        subst ew
        have hpt : ps.length = ts.length := by
          rw [lk] at lk2
          have b := Option.some.inj lk2
          omega
        refine ite2 (fun c3 => absurd c3 (by simp)) (fun _ => ?_)
        refine ⟨_, rfl, _, rfl, a, _, rfl, .inl (.inl ea), slice1, fun p1 h1 => ?_⟩
        rw [cut1]
        have s1 := same_upd h1 (.tup vs)
        refine ⟨_, rfl, _, rfl, a2, _, rfl, .inl (.inl (s1 _ _ ea2)), slice1, fun p2 h2 => ?_⟩
        rw [cut1]
        have s2 := same_upd h2 (.tup vs2)
        have s12 := s1.trans s2
        have n12 : p1 ≠ p2 := ne_of_none upd_same h2
        refine ⟨p1, p2, vs, vs2, rfl, .inr ⟨.inl (.inl (s2 _ _ upd_same)), .inl (.inl upd_same), ?_⟩⟩
        refine RZ.for_zipT (K := K) (a := p1) (b := p2) (xs := vs) (ys := vs2) (by rw [hlen, hlen2, hpt]) (fun i σ H2 => ∃ y3 y4 al2, σ = [some (.ref a), some (.ref a2), some (.ref f), y3, y4] ∧ ExD f (upd (upd H p1 (.tup vs)) p2 (.tup vs2)) H2 ∧ AsD H2 f al2 ∧ Mid al ps ts i al2) ?_ ?_ ?_ ?_
        · refine ⟨none, none, al, rfl, .refl _ _, hA.same s12, rfl, hd, ?_⟩
          rw [List.drop_zero]
          simpa only [lc] using hl
        · intro i σ H2 ⟨_, _, _, _, x, _, _⟩
          have hD := (hA.same s12).isD
          exact ⟨.inl (.inl (x.tup hD (s2 _ _ upd_same))), .inl (.inl (x.tup hD upd_same))⟩
        · intro i x x2 Tt σ H2 hx hx2 ⟨y3, y4, al2, es, xd, hA2, hM⟩ nT
          subst es
          obtain ⟨y, ey, hy⟩ := hL.get hx
          obtain ⟨z, ez, hz⟩ := hL2.get hx2
          have hm := List.mem_of_getElem? ey
          have hm2 := List.mem_of_getElem? ez
          have dy := depL_mem hm
          have dz := depL_mem hm2
          have s3 := same_upd nT (.tup [x, x2])
          have hD := (hA.same s12).isD
          have up := fun {v t} (h : Is H v t) (h' : Tm t) => (Is.exD xd hD h' (h.same s12)).same s3
          obtain ⟨turn1, turn2⟩ := hM.turn ey ez ⟨mem_GrL hG z hm2, by omega⟩
          have hf := hM.few
          rw [lcL_get ey] at hf
          refine ⟨Tt, _, rfl, .inl (.inl upd_same), rfl, _, _, rfl, _, _, rfl, rfl, ?_⟩
          refine ⟨_, rfl, _, rfl, _, rfl, f, mk, x, x2, y, z, al2, rfl, hA2.same s3, up hy (form_tm _ (formL_mem hWl y hm)), up hz (form_tm _ (formL_mem hWl2 z hm2)), ar, formL_mem hWl y hm, formL_mem hWl2 z hm2, mem_GrL hG z hm2, by omega, by omega, hM.dp, by omega, fun H3 xd3 hA3 => ⟨_, rfl, ?_⟩⟩
          have xall : ExD f H H3 := ((ExD.of s12).trans xd).trans ((ExD.of s3).trans xd3)
          cases hb : (fit al2 y z).1 with
          | false =>
            rw [turn2 hb] at q
            exact iteT (q H3 xall hA3)
          | true => exact iteF ⟨_, _, _, rfl, xd.trans ((ExD.of s3).trans xd3), hA3, turn1 hb⟩
        · intro σ H2 ⟨y3, y4, al2, es, xd, hA2, hM⟩
          subst es
          rw [hlen] at hM
          rw [hM.end_] at q
          exact q H2 ((ExD.of s12).trans xd) hA2
end
end Kx
namespace Kx
open PySem PySem.Spec PyProof.Rows L2
section
variable {P : Program} {w : World} {K : PySem.W.Frag} {mg : Str → Option Value} {base : Heap}
def spFitted (n : Nat) : Sp := fun vs H Q _ => ∃ (a b : Addr) (mk : List (Str × Int)) (xs ys : List V) (ps ts : List PV), vs = [.ref a, .ref b] ∧ (H a = some (.lst xs) ∧ H b = some (.lst ys)) ∧ IsL H xs ps ∧ IsL H ys ts ∧ Ar mk ∧ formL mk true ps = true ∧ formL mk true ts = true ∧ GrL ts ∧ ps.length = ts.length ∧ (∀ t ∈ ps, dep t ≤ n) ∧ (∀ t ∈ ts, dep t ≤ 60) ∧ lcL ps ≤ 100000 ∧
  ((fitL [] ps ts).1 = true → ∀ f H', Same H H' → H f = none → AsD H' f (fitL [] ps ts).2 → Q (.ref f) H') ∧ ((fitL [] ps ts).1 = false → ∀ H', Same H H' → Q .non H')
theorem ok_fitted {n : Nat} (T : Txt K mg) (G_fits : FnOk P w K mg base CX0 (n+1) T.a_fits T.d_fits ["pattern", "term", "found"] (spFit n)) : FnOk P w K mg base CX0 (n+2) T.a_fitted T.d_fitted ["patterns", "terms"] (spFitted n) := by
  refine T.F_fitted.ok sc_fitted (fun vs H Q E h => ?_) (fun cdv A outer s H vs Q E hr h => ?_)
  · obtain ⟨a, b, mk, xs, ys, ps, ts, rfl, _⟩ := h; rfl
  · obtain ⟨a, b, mk, xs, ys, ps, ts, rfl, hAB, hL, hL2, ar, hW, hX, hG, hpt, hn, ht60, hlc, q1, q2⟩ := h
    have hr_fits := hr
    refine ⟨_, (pss_cons (ps_set (i := 2) sc_fitted.nd rfl (Or.inl rfl) pe_dnewK)
    (pss_cons (ps_for PassesOwn.never rfl (RZ.pi_zipA (by rfl) T.z_zip (pa_cons (pv 0) (pa_cons (pv 1) pa_nil))) (pg_tup rfl (pgs_cons (pg_name (i := 3) sc_fitted.nd rfl (Or.inl rfl)) (pgs_cons (pg_name (i := 4) sc_fitted.nd rfl (Or.inl rfl)) pgs_nil)))
    (pss_one (ps_if (pt_not (pt_val (pe_call G_fits hr_fits rfl T.m_fits T.F_fits.kp T.b_fits .nil pass0 (pa_cons (pv 3) (pa_cons (pv 4) (pa_cons (pv 2) pa_nil)))))) (pss_one (ps_ret pe_non)) pss_nil)))
    (pss_one (ps_ret (pv 2))))), ?_⟩
    refine fun f hf0 => ?_
    have s0 := same_upd hf0 (.dK [])
    have fin : ∀ {H3 : Hp}, ExD f (upd H f (.dK [])) H3 → Same H H3 := fun x b o e => by
      have nb := ne_of_none e hf0
      exact x b o nb (by rw [upd_ne nb]; exact e)
    obtain ⟨eA, eB⟩ := hAB
    · have nA := ne_of_none eA hf0
      have nB := ne_of_none eB hf0
      refine ⟨_, rfl, _, rfl, a, b, xs, ys, rfl, .inl ⟨SqL.of (s0 _ _ eA), SqL.of (s0 _ _ eB), ?_⟩⟩
      refine RZ.for_zipL (K := K) (a := a) (b := b) (xs := xs) (ys := ys) (by rw [hL.len, hL2.len, hpt]) (fun i σ H2 => ∃ y3 y4 al2, σ = [some (.ref a), some (.ref b), some (.ref f), y3, y4] ∧ ExD f (upd H f (.dK [])) H2 ∧ AsD H2 f al2 ∧ Mid [] ps ts i al2) ?_ ?_ ?_ ?_
      · refine ⟨none, none, [], rfl, .refl _ _, ⟨[], upd_same, .nil⟩, rfl, fun kv hk => by simp at hk, ?_⟩
        rw [List.drop_zero]; simpa using hlc
      · intro i σ H2 ⟨_, _, _, _, x, _, _⟩
        exact ⟨SqL.of (x _ _ nA (s0 _ _ eA)), SqL.of (x _ _ nB (s0 _ _ eB))⟩
      · intro i x x2 Tt σ H2 hx hx2 ⟨y3, y4, al2, es, xd, hA2, hM⟩ nT
        subst es
        obtain ⟨y, ey, hy⟩ := hL.get hx
        obtain ⟨z, ez, hz⟩ := hL2.get hx2
        have hm := List.mem_of_getElem? ey
        have hm2 := List.mem_of_getElem? ez
        have s3 := same_upd nT (.tup [x, x2])
        have up := fun {v t} (h : Is H v t) (h' : Tm t) => (Is.exD xd ⟨[], upd_same⟩ h' (h.same s0)).same s3
        obtain ⟨turn1, turn2⟩ := hM.turn ey ez ⟨mem_GrL hG z hm2, ht60 z hm2⟩
        have hf := hM.few
        rw [lcL_get ey] at hf
        refine ⟨Tt, _, rfl, .inl (.inl upd_same), rfl, _, _, rfl, _, _, rfl, rfl, ?_⟩
        refine ⟨_, rfl, _, rfl, _, rfl, f, mk, x, x2, y, z, al2, rfl, hA2.same s3, up hy (form_tm _ (formL_mem hW y hm)), up hz (form_tm _ (formL_mem hX z hm2)), ar, formL_mem hW y hm, formL_mem hX z hm2, mem_GrL hG z hm2, hn y hm, ht60 z hm2, hM.dp, by omega, fun H3 xd3 hA3 => ⟨_, rfl, ?_⟩⟩
        have xall := xd.trans ((ExD.of s3).trans xd3)
        cases hb : (fit al2 y z).1 with
        | false =>
          refine iteT (q2 (by rw [turn2 hb]) H3 (fin xall))
        | true => exact iteF ⟨_, _, _, rfl, xall, hA3, turn1 hb⟩
      · intro σ H2 ⟨y3, y4, al2, es, xd, hA2, hM⟩
        subst es
        rw [hL.len] at hM
        have e := hM.end_
        rw [e] at q1
        exact ⟨_, rfl, q1 rfl f H2 (fin xd) hf0 hA2⟩
end
end Kx
namespace Kx
open PySem PySem.Spec PyProof.Rows L2
section
variable {P : Program} {w : World} {K : PySem.W.Frag} {mg : Str → Option Value} {base : Heap}
theorem val_look (mk : List (Str × Int)) (z : Str) : valV (mk.map fun kv => ((Sum.inr kv.1 : Key), V.int kv.2)) (Sum.inr z) = (look mk z).map V.int := by
  induction mk with
  | nil => rfl
  | cons kv r ih =>
    rw [List.map_cons]
    by_cases h : kv.1 = z
    · rw [valV_pos (by rw [h])]
      simp [look, h]
    · rw [valV_neg (by intro e; exact h (Sum.inr.inj e)), ih]
      simp [look, h]
theorem merge_mk : ∀ (mk : List (Str × Int)) (acc : List (Key × V)), (acc.map (·.1) ++ mk.map fun kv => (Sum.inr kv.1 : Key)).Nodup → mergeK acc (mk.map fun kv => ((Sum.inr kv.1 : Key), V.int kv.2)) = acc ++ mk.map fun kv => ((Sum.inr kv.1 : Key), V.int kv.2)
  | [], acc, _ => by simp [mergeK]
  | kv :: r, acc, h => by
    have hn : valV acc (Sum.inr kv.1) = none := by
      cases e : valV acc (Sum.inr kv.1) with
      | none => rfl
      | some v =>
        exfalso
        have m := valV_in e
        rw [List.map_cons] at h
        exact (List.nodup_append.mp h).2.2 _ m _ (List.mem_cons_self ..) rfl
    have ih := merge_mk r (acc ++ [((Sum.inr kv.1 : Key), V.int kv.2)]) (by
      rw [List.map_append, List.append_assoc]
      exact h)
    show mergeK (putK acc (Sum.inr kv.1) (.int kv.2)) (r.map fun kv => ((Sum.inr kv.1 : Key), V.int kv.2)) = _
    rw [putK_new _ hn, ih, List.append_assoc]
    rfl
theorem merge_nil {mk : List (Str × Int)} (h : (mk.map (·.1)).Nodup) : mergeK [] (mk.map fun kv => ((Sum.inr kv.1 : Key), V.int kv.2)) = mk.map fun kv => ((Sum.inr kv.1 : Key), V.int kv.2) := by
  have e : (mk.map fun kv => (Sum.inr kv.1 : Key)) = (mk.map (·.1)).map Sum.inr := by simp
  have n : ((([] : List (Key × V)).map (·.1)) ++ mk.map fun kv => (Sum.inr kv.1 : Key)).Nodup := by
    rw [e]
    exact List.Pairwise.map _ (fun a b (q : a ≠ b) (z : (Sum.inr a : Key) = Sum.inr b) => q (Sum.inr.inj z)) h
  exact merge_mk mk [] n
theorem form_word {mk : List (Str × Int)} {nm : Bool} {w : Str} {ts : List PV} (h : form mk nm (.tup (.str w :: ts)) = true) : w ∈ mk.map (·.1) := by
  simp only [form, Bool.and_eq_true] at h
  have h1 := h.1
  unfold look at h1
  cases e : mk.find? (fun kv => kv.1 == w) with
  | none => rw [e] at h1; simp at h1
  | some kv =>
    have h2 := List.find?_some e
    have h3 := List.mem_of_find?_eq_some e
    exact List.mem_map.mpr ⟨kv, h3, by simpa using h2⟩
def RForm (mk : List (Str × Int)) (nm : Bool) : ResT := fun _ r ts => r = .bl true ∧ form mk nm (.tup ts) = true
theorem RForm.st (mk : List (Str × Int)) (nm : Bool) : Stable (RForm mk nm) := fun _ _ _ _ _ h => h
def spForm (C : Addr) (n : Nat) : Sp := fun vs H Q _ => ∃ (p : Addr) (mk : List (Str × Int)) (v : V) (t : PV) (nm : Bool) (ko : Addr) (H0 : Hp), vs = [.ref p, v, .bl nm, .ref ko] ∧ H0 p = some (.dK (mk.map fun kv => (Sum.inr kv.1, V.int kv.2))) ∧ (mk.map (·.1)).Nodup ∧ mk.length ≤ 20 ∧ Is H0 v t ∧ dep t ≤ n ∧ dep t ≤ 100 ∧ Same H0 H ∧ KeptAt C (mk.map (·.1)) (RForm mk nm) H0 H ko ∧
  ∀ H', Same H0 H' → Fr ko H H' → KeptAt C (mk.map (·.1)) (RForm mk nm) H0 H' ko → Q (.bl (form mk nm t)) H'
theorem ok_has_form {n : Nat} (T : Txt K mg) (G_has_form : FnOk P w K mg base CX0 (n+1) T.a_has_form T.d_has_form ["parts_by_word", "value", "may_have_names", "kept"] (spForm T.c_Kept n)) (G_Kept_pair_of : FnOk P w K mg base CX0 1 T.a_Kept_pair_of T.d_Kept_pair_of ["self", "tree"] (spKPair T.c_Kept)) (G_Kept_keep : FnOk P w K mg base CX0 1 T.a_Kept_keep T.d_Kept_keep ["self", "tree", "result"] (spKKeep T.c_Kept)) : FnOk P w K mg base CX0 (n+2) T.a_has_form T.d_has_form ["parts_by_word", "value", "may_have_names", "kept"] (spForm T.c_Kept (n+1)) := by
  refine T.F_has_form.ok sc_has_form (fun vs H Q E h => ?_) (fun cdv A outer s H vs Q E hr h => ?_)
  · obtain ⟨p, mk, v, t, nm, ko, H0, rfl, _⟩ := h; rfl
  · obtain ⟨p, mk, v, t, nm, ko, H0, rfl, hP0, nd, m5, hI0, hn, h100, s0, hK, q⟩ := h
    have hu := hu_of hr
    have hr_has_form := hr
    have st := RForm.st mk nm
    have hr_Kept_pair_of : Room 1 _ := hr.mono (by omega)
    have hr_Kept_keep : Room 1 _ := hr.mono (by omega)
    have hI := hI0.same s0
    have hP := s0 _ _ hP0
    have q0 := fun b (e : form mk nm t = b) => e ▸ q H s0 (.refl _ _) hK
    refine ⟨_, (pss_cons (ps_if (pt_val (pe_callB call_isi (by rfl) T.z_isinstance (by decide +kernel) (pa_cons (pv 1) (pa_cons (pe_bltn rfl T.z_str (by decide +kernel) (show RelV (V.ty "str") (Value.type "str") from rfl)) pa_nil)))) (pss_one (ps_ret (pe_and (pv 2) (pe_one (pe_cmp (pc_dnotin hu (pv 1) (pv 0)) rfl))))) pss_nil)
    (pss_cons (ps_if (PW.pt (pw_or (pt_not (pt_val (pe_callB call_isi (by rfl) T.z_isinstance (by decide +kernel) (pa_cons (pv 1) (pa_cons (pe_bltn rfl T.z_tuple (by decide +kernel) (show RelV (V.ty "tuple") (Value.type "tuple") from rfl)) pa_nil))))) (pw_or (pt_not (pt_truth (pv 1) (by intro _; rfl))) (pw_or1 (pt_not (pt_val (pe_callB call_isi (by rfl) T.z_isinstance (by decide +kernel) (pa_cons (pe_ix ix_tup (pv 1) pe_int (fun _ _ => rfl)) (pa_cons (pe_bltn rfl T.z_str (by decide +kernel) (show RelV (V.ty "str") (Value.type "str") from rfl)) pa_nil))))))))) (pss_one (ps_ret pe_bl)) pss_nil)
    (pss_cons (ps_if (pt_cmpR op_ne (pe_dget2 hu (pv 0) (pe_ix ix_tup (pv 1) pe_int (fun _ _ => rfl)) (pe_un un_neg pe_int) ⟨rfl, rfl, rfl, rfl⟩) (pe_op op_sub (pe_callB call_len_seq (by rfl) T.z_len (by decide +kernel) (pa_cons (pv 1) pa_nil)) pe_int) (nomark _)) (pss_one (ps_ret pe_bl)) pss_nil)
    (pss_cons (ps_if (pt_cmpR op_notN (pe_meth (pv 3) T.cl_Kept T.me_Kept_pair_of G_Kept_pair_of hr_Kept_pair_of T.b_Kept_pair_of .nil pass0 (pa_cons (pv 1) pa_nil)) pe_non (nomark _)) (pss_one (ps_ret pe_bl)) pss_nil)
    (pss_cons (ps_for PassesOwn.never rfl (pi_tup (pe_slice sl_tup (pv 1) (po_some pe_int) po_none)) (pg_name (i := 4) sc_has_form.nd rfl (Or.inl rfl))
    (pss_one (ps_if (pt_not (pt_val (pe_call G_has_form hr_has_form rfl T.m_has_form T.F_has_form.kp T.b_has_form .nil pass0 (pa_cons (pv 0) (pa_cons (pv 4) (pa_cons (pv 2) (pa_cons (pv 3) pa_nil))))))) (pss_one (ps_ret pe_bl)) pss_nil)))
    (pss_cons (ps_expr (pe_meth (pv 3) T.cl_Kept T.me_Kept_keep G_Kept_keep hr_Kept_keep T.b_Kept_keep .nil pass0 (pa_cons (pv 1) (pa_cons pe_bl pa_nil))))
    (pss_one (ps_ret pe_bl)))))))), ?_⟩
    obtain ⟨u, ty, kt⟩ := hI.ty (K := K)
    refine ⟨_, rfl, _, _, u, _, _, rfl, .ty _, ty, kit_str kt, _, rfl, ite2 (fun c => ?_) (fun c => ?_)⟩
    · cases t with
      | oth => cases c
      | tup ts => cases c
      | str z =>
      cases hI.str_inv
      refine ⟨_, rfl, nm, rfl, ?_⟩
      cases nm with
      | false => exact iteF (q0 _ rfl)
      | true =>
        refine iteT ⟨_, rfl, _, rfl, p, _, rfl, DGet.k (k := Sum.inr z) hP, ?_⟩
        rw [val_look]
        have e : form mk true (.str z) = (!((look mk z).map V.int).isSome) := by
          simp only [form]
          cases look mk z <;> rfl
        exact q0 _ e
    · refine ⟨_, rfl, _, _, u, _, _, rfl, .ty _, ty, kit_tup kt, _, rfl, ?_⟩
      cases t with
      | str z => exact absurd rfl c
      | oth => exact iteT (iteT (q0 _ rfl))
      | tup ts =>
      obtain ⟨a, vs, rfl, ea0, hL0⟩ := hI0.tup_inv
      have ea := s0 _ _ ea0
      refine iteF ⟨_, rfl, _, .inr (.inl ⟨_, .inl (.inl ea), rfl⟩), ?_⟩
      cases hL0 with
      | nil => exact iteT (iteT (q0 _ rfl))
      | @cons x0 vs t0 ts h0 hL =>
      refine iteF ⟨_, rfl, a, _, _, _, rfl, rfl, .inl (.inl ea), atI_nat (j := 0) rfl, ?_⟩
      obtain ⟨u0, ty0, kt0⟩ := (h0.same s0).ty (K := K)
      refine ⟨_, _, u0, _, _, rfl, .ty _, ty0, kit_str kt0, _, rfl, ?_⟩
      cases t0 with
      | oth => exact iteT (q0 _ rfl)
      | tup _ => exact iteT (q0 _ rfl)
      | str w0 =>
      cases h0.str_inv
      have hlen := hL.len
      refine iteF ?_
      have hget : DGet H p (.str w0) ((look mk w0).map V.int) := by
        rw [← val_look]
        exact DGet.k (k := Sum.inr w0) hP
      refine ⟨_, rfl, p, rfl, .inl ⟨_, .of hP⟩, _, rfl, a, _, _, _, rfl, rfl, .inl (.inl ea), atI_nat (j := 0) rfl, _, rfl, (look mk w0).map V.int, hget, ?_⟩
      refine ⟨_, rfl, a, _, rfl, .inr (.inl (.inl ea)), _, _, rfl, rfl, ?_⟩
      have scl : scal (((look mk w0).map V.int).getD (.int (-1))) (.int ((((V.str w0 :: vs).length : Nat) : Int) - 1)) = true := by
        cases look mk w0 <;> rfl
      refine ⟨scl, _, rfl, ?_⟩
      have cmp : (!decide ((((look mk w0).map V.int).getD (.int (-1))) = .int ((((V.str w0 :: vs).length : Nat) : Int) - 1))) = !(look mk w0 == some (ts.length : Int)) := by
        have e : ((((V.str w0 :: vs).length : Nat) : Int) - 1) = (ts.length : Int) := by rw [List.length_cons, hlen]; omega
        rw [e]
        congr 1
        cases hlk : look mk w0 with
        | none =>
          show decide (V.int (-1) = V.int (ts.length : Int)) = false
          rw [dec_int]
          exact beq_eq_false_iff_ne.mpr (by omega)
        | some i =>
          show decide (V.int i = V.int (ts.length : Int)) = _
          rw [dec_int]
          rfl
      rw [cmp]
      cases hk : (look mk w0 == some (ts.length : Int)) with
      | false =>
        have e : form mk nm (.tup (.str w0 :: ts)) = false := by simp only [form, hk, Bool.false_and]
        exact iteT (q0 _ e)
      | true =>
      have ef : form mk nm (.tup (.str w0 :: ts)) = ts.all (form mk nm) := by simp only [form, hk, Bool.true_and, formL_all]
      have cN : depL ts < dep (.tup (.str w0 :: ts)) := by simp only [dep, depL]; omega
      -- kept.pair_of(value) is not None
      refine iteF ?_
      obtain ⟨dx, d, kvs, h1, _⟩ := id hK
      refine ⟨_, rfl, ko, dx, _, rfl, h1, rfl, _, rfl, ko, a, w0, vs, ts, _, _, H0, rfl, st, s0, hK, ea0, hI0, fun e he => ?_⟩
      have se := same_upd he (.lst [])
      have sK := hK.same st se
      have s0e := s0.trans se
      refine ⟨⟨rfl, _, rfl, ?_⟩, fun pp v2 r hp hR => ⟨rfl, _, rfl, iteT (hR.2 ▸ q _ s0e (Fr.of se hK) sK)⟩⟩
      have ea1 := se _ _ ea
      refine iteF ⟨_, rfl, _, rfl, a, _, rfl, .inl (.inl ea1), slice1, fun p1 hp1 => ?_⟩
      rw [cut1]
      have s1 := same_upd hp1 (.tup vs)
      have s01 := s0e.trans s1
      have t01 : Fr ko H _ := (Fr.of se hK).trans (Fr.of s1 sK)
      refine ⟨p1, rfl, ⟨_, .inl (.inl upd_same)⟩, ?_⟩
      refine for_tup (K := K) (a := p1) (xs := vs) (fun i σ H2 => ∃ y3, σ = [some (.ref p), some (.ref a), some (.bl nm), some (.ref ko), y3] ∧ Same H0 H2 ∧ Fr ko (upd (upd H e (.lst [])) p1 (.tup vs)) H2 ∧ KeptAt T.c_Kept (mk.map (·.1)) (RForm mk nm) H0 H2 ko ∧ (ts.take i).all (form mk nm) = true) ?_ ?_ ?_ ?_
      · exact ⟨_, rfl, s01, .refl _ _, sK.same st s1, rfl⟩
      · exact fun i σ H2 _ ⟨_, _, _, tu, _⟩ => .inl (.inl (tu.tu _ _ upd_same (fun _ z => by cases z) (fun _ z => by cases z)))
      · intro i x σ H2 hx ⟨y3, es, sm, tu, k2, hall⟩
        subst es
        obtain ⟨y, ey, hy⟩ := hL.get hx
        have hm := List.mem_of_getElem? ey
        have cy := depL_mem hm
        refine ⟨_, rfl, _, rfl, _, rfl, _, rfl, p, mk, x, y, nm, ko, H0, rfl, hP0, nd, m5, hy, by omega, by omega, sm, k2, fun H3 s3 t3 k3 => ?_⟩
        refine ⟨_, rfl, ?_⟩
        cases hf : form mk nm y with
        | false =>
          have e : form mk nm (.tup (.str w0 :: ts)) = false := by
            rw [ef, List.all_eq_false]
            exact ⟨y, hm, by rw [hf]; exact Bool.false_ne_true⟩
          exact iteT (e ▸ q H3 s3 ((t01.trans tu).trans t3) k3)
        | true =>
          refine iteF ⟨_, rfl, s3, tu.trans t3, k3, ?_⟩
          have hi := (List.getElem?_eq_some_iff.mp ey)
          obtain ⟨hi, ey2⟩ := hi
          rw [List.take_succ_eq_append_getElem hi, List.all_append, hall, ey2]
          simp [hf]
      · intro σ H2 ⟨y3, es, sm, tu, k2, hall⟩
        subst es
        rw [hlen, List.take_length] at hall
        have e : form mk nm (.tup (.str w0 :: ts)) = true := ef.trans hall
        obtain ⟨dx2, d2, kvs2, g1, _⟩ := id k2
        refine ⟨_, rfl, ko, dx2, _, rfl, g1, rfl, _, rfl, ko, a, .bl true, w0, vs, ts, _, _, H0, rfl, st, sm, k2, by rw [List.length_map]; exact m5, ea0, hI0, form_word e, form_tm _ e, by omega, ⟨rfl, e⟩, fun H3 s3 t3 k3 => ?_⟩
        exact e ▸ q H3 s3 ((t01.trans tu).trans t3) k3
end
end Kx
namespace Kx
open PySem PySem.Spec PyProof.Rows L2
section
variable {P : Program} {w : World} {K : PySem.W.Frag} {mg : Str → Option Value} {base : Heap}
theorem lenSeqK {X : Cx} {K : PySem.W.Frag} (h : X.K = K := by rfl) : CallR X (.builtin "len") (fun xs H Q => ∃ p ys, xs = [.ref p] ∧ (SqL K H p ys ∨ SqT K H p ys) ∧ Q (.int (ys.length : Int)) H) := by subst h; exact call_len_seq
theorem pair_append {α β : Type} {F : α → β → Prop} : ∀ {l l' : List α} {m m' : List β}, Paired F l m → Paired F l' m' → Paired F (l ++ l') (m ++ m')
  | _, _, _, _, .nil, h => h
  | _, _, _, _, .cons h t, h' => .cons h (pair_append t h')
theorem pair_len {α β : Type} {F : α → β → Prop} : ∀ {l : List α} {m : List β}, Paired F l m → l.length = m.length
  | _, _, .nil => rfl
  | _, _, .cons _ t => by simp [pair_len t]
theorem pk_of {H : Hp} : ∀ {ps : List Addr} {mk : List (Str × Int)}, Paired (fun p kv => H p = some (.tup [.str kv.1, .int kv.2])) ps mk → Paired (fun p kv => SqT K H p [kV kv.1, kv.2]) ps (mk.map fun kv => ((Sum.inr kv.1 : Key), V.int kv.2))
  | _, _, .nil => .nil
  | _, _, .cons a t => .cons (.inl (.inl a)) (pk_of t)
/-- the tuple at m holds the pairs of words and numbers -/
def MkF (H : Hp) (m : Addr) (mk : List (Str × Int)) : Prop := ∃ (o : Obj) (ps : List Addr), H m = some (.frz o (.tup (ps.map V.ref))) ∧ o.dict = none ∧ Paired (fun p kv => H p = some (.tup [.str kv.1, .int kv.2])) ps mk
def spIsT (n : Nat) : Sp := fun vs H Q _ => ∃ (m : Addr) (mk : List (Str × Int)) (v : V) (t : PV), vs = [.ref m, v] ∧ MkF H m mk ∧ (mk.map (·.1)).Nodup ∧ mk.length ≤ 20 ∧ Is H v t ∧ dep t ≤ n ∧ dep t ≤ 100 ∧ ∀ H', Same H H' → Q (.bl (form mk false t)) H'
theorem ok_is_tree {n k : Nat} (T : Txt K mg) (G_has_form : FnOk P w K mg base CX0 (k+2) T.a_has_form T.d_has_form ["parts_by_word", "value", "may_have_names", "kept"] (spForm T.c_Kept n)) (G_Kept_init : FnOk P w K mg base CX0 1 T.a_Kept_init T.d_Kept_init ["self"] (spKInit T.c_Kept)) : FnOk P w K mg base CX0 (k+3) T.a_is_tree T.d_is_tree ["makers", "value"] (spIsT n) := by
  refine T.F_is_tree.ok sc_is_tree (fun vs H Q E h => ?_) (fun cdv A outer s H vs Q E hr h => ?_)
  · obtain ⟨m, mk, v, t, rfl, _⟩ := h; rfl
  · obtain ⟨m, mk, v, t, rfl, hM, nd, l20, hI, hn, h100, q⟩ := h
    have hr_has_form := hr
    have hr_Kept_init : Room 2 _ := hr.mono (by omega)
    refine ⟨_, (pss_one (ps_ret (pe_call G_has_form hr_has_form rfl T.m_has_form T.F_has_form.kp T.b_has_form .nil pass0 (pa_cons (pe_callTy (call_dictT rfl) (by rfl) T.z_dict (by decide +kernel) (pa_cons (pv 0) pa_nil)) (pa_cons (pv 1) (pa_cons pe_bl (pa_cons (pe_make0 T.mk_Kept G_Kept_init hr_Kept_init rfl T.mg_Kept T.b_Kept_init .nil pass0) pa_nil))))))), ?_⟩
    obtain ⟨o, ps, em, od, pp⟩ := hM
    have pk : Paired (fun p kv => SqT K H p [kV kv.1, kv.2]) ps (mk.map fun kv => ((Sum.inr kv.1 : Key), V.int kv.2)) := by
      exact pk_of pp
    refine ⟨_, rfl, m, o, ps, _, rfl, em, od, pk, fun p hp => ?_⟩
    rw [merge_nil nd]
    have s := same_upd hp (.dK (mk.map fun kv => ((Sum.inr kv.1 : Key), V.int kv.2)))
    generalize hH0 : upd H p (.dK (mk.map fun kv => ((Sum.inr kv.1 : Key), V.int kv.2))) = H0 at s
    have eP : H0 p = some (.dK (mk.map fun kv => ((Sum.inr kv.1 : Key), V.int kv.2))) := by rw [← hH0]; exact upd_same
    refine ⟨_, rfl, fun x dx hx hdx ndx => ?_⟩
    refine ⟨x, dx, rfl, upd_same, fun d hd => ⟨rfl, ?_⟩⟩
    have z1 : Same H0 (upd H0 dx (.own x)) := same_upd hdx _
    have z2 : Same H0 (upd (upd H0 dx (.own x)) x (.ins T.c_Kept dx [])) := Kx.Same.own z1 hx _
    have hd0 : H0 d = none := z2.free hd
    have z3 : Same H0 (upd (upd (upd H0 dx (.own x)) x (.ins T.c_Kept dx [])) d (.dK [])) := z2.trans (same_upd hd _)
    have z4 : Same H0 (upd (upd (upd (upd H0 dx (.own x)) x (.ins T.c_Kept dx [])) d (.dK [])) x (.ins T.c_Kept dx [("rows", .ref d)])) := Kx.Same.own z3 hx _
    have ndx2 : d ≠ x := fun e => by subst e; rw [upd_same] at hd; cases hd
    have kH : KeptAt T.c_Kept (mk.map (·.1)) (RForm mk false) H0 (upd (upd (upd (upd H0 dx (.own x)) x (.ins T.c_Kept dx [])) d (.dK [])) x (.ins T.c_Kept dx [("rows", .ref d)])) x :=
      ⟨dx, d, [], upd_same, by rw [upd_ne ndx2, upd_same], hd0, List.nodup_nil, fun kv m => absurd m (by simp)⟩
    exact ⟨p, mk, v, t, false, x, H0, rfl, eP, nd, l20, hI.same s, hn, h100, z4, kH, fun H' s' _ _ => q H' (s.trans s')⟩
/-- what the constructors ask for: how many parts each word has -/
def cnts (cs : List Con) : List (Str × Int) := cs.map fun c => (c.w, (c.ps.length : Int))
def spCounts : Sp := fun vs H Q _ => ∃ (v : V) (mk : List PV) (F : List Str) (cs : List Con), vs = [v] ∧ Is H v (tabPV mk F cs) ∧ cs.length ≤ 20 ∧ ∀ m H', Same H H' → MkF H' m (cnts cs) → Q (.ref m) H'
theorem ok_counts (T : Txt K mg)  : FnOk P w K mg base CX0 1 T.a_counts T.d_counts ["table"] spCounts := by
  refine T.F_counts.ok sc_counts (fun vs H Q E h => ?_) (fun cdv A outer s H vs Q E hr h => ?_)
  · obtain ⟨v, mk, F, cs, rfl, _⟩ := h; rfl
  · obtain ⟨v, mk, F, cs, rfl, hI, h20, q⟩ := h
    refine ⟨_, (pss_one (ps_ret (pe_callTy call_tupleF (by rfl) T.z_tuple (by decide +kernel) (pa_cons (pe_lc (own := [("word", 1), ("parts", 2), ("_", 3)]) (g := (gTup K 4 (gCons (gName 1) (gCons (gName 2) (gCons (gName 3) (gCons (gName 3) gNil)))))) (tt := tYes) rfl sc_counts.nd (pi_tup (pe_ix ix_tup (pv 0) pe_int (fun _ _ => rfl))) (blkOk_by (own := [("word", 1), ("parts", 2), ("_", 3)]) (N := ["table", "word", "parts", "_"]) (sc := defScope s_counts) (by decide +kernel)) (fun _ _ _ _ _ => (pg_tup rfl (pgs_cons (pg_name (i := 1) sc_counts.nd rfl (Or.inl rfl)) (pgs_cons (pg_name (i := 2) sc_counts.nd rfl (Or.inl rfl)) (pgs_cons (pg_name (i := 3) sc_counts.nd rfl (Or.inl rfl)) (pgs_cons (pg_name (i := 3) sc_counts.nd rfl (Or.inl rfl)) pgs_nil)))))) (fun _ _ _ _ _ => pts_nil) (fun _ _ _ _ _ => (pe_tup (pa_cons (pv 1) (pa_cons (pe_callB (lenSeqK (K := K)) (by rfl) T.z_len (by decide +kernel) (pa_cons (pv 2) pa_nil)) pa_nil))))) pa_nil)))), ?_⟩
    obtain ⟨a, vs, rfl, ea, hL⟩ := hI.tup_inv
    have l3 : 3 < vs.length := by rw [hL.len]; exact Nat.lt_of_lt_of_le (by decide : 3 < 4) (Nat.le_refl 4)
    have h3 : vs[3]? = some (vs[3]'l3) := List.getElem?_eq_getElem _
    obtain ⟨y, ey, iy⟩ := hL.get h3
    generalize vs[3]'l3 = ct at h3 iy
    have ey2 : y = .tup (cs.map conPV) := (Option.some.inj ey).symm
    subst ey2
    obtain ⟨ca, cvs, rfl, ec, icL⟩ := iy.tup_inv
    have clen := icL.len
    rw [List.length_map] at clen
    refine ⟨_, rfl, a, _, _, _, rfl, rfl, .inl (.inl ea), atI_nat (j := 3) h3, ca, rfl, ⟨_, .inl (.inl ec)⟩, fun D hD => ?_⟩
    refine lc_tup (K := K) (a := ca) (xs := cvs) (fun i H2 => ∃ ps : List Addr, Same H H2 ∧ H2 D = some (.lst (ps.map V.ref)) ∧ Paired (fun p kv => H2 p = some (.tup [.str kv.1, .int kv.2])) ps (cnts (cs.take i))) ?_ ?_ ?_ ?_
    · exact ⟨[], same_upd hD _, upd_same, .nil⟩
    · exact fun i H2 _ ⟨_, sm, _⟩ => .inl (.inl (sm _ _ ec))
    · rintro i x H2 hx ⟨ps, sm, eD, pp⟩
      obtain ⟨y, ey, iy⟩ := icL.get hx
      rw [List.getElem?_map] at ey
      have hi : i < cs.length := by rw [← clen]; exact (List.getElem?_eq_some_iff.mp hx).1
      rw [List.getElem?_eq_getElem hi] at ey
      cases (Option.some.inj ey)
      obtain ⟨xa, xvs, rfl, ex, ixL⟩ := iy.tup_inv
      cases ixL with
      | @cons wv _ _ _ iw ixL =>
      cases iw.str_inv
      cases ixL with
      | @cons pv_ _ _ _ ip ixL =>
      obtain ⟨pa, pvs, rfl, ep, ipL⟩ := ip.tup_inv
      have plen := ipL.len
      rw [List.length_map] at plen
      cases ixL with
      | @cons fv _ _ _ ifm ixL =>
      cases ixL with
      | @cons iv _ _ _ iix ixL =>
      cases ixL
      refine ⟨xa, _, rfl, .inl (.inl (sm _ _ ex)), rfl, _, _, rfl, _, _, rfl, _, _, rfl, _, _, rfl, rfl, rfl, yes_if ?_⟩
      refine ⟨_, rfl, _, rfl, pa, _, rfl, .inr (.inl (.inl (sm _ _ ep))), (by show 2 ≤ sizeLine; decide), fun p hp => ?_⟩
      have sp := same_upd hp (.tup [.str cs[i].w, .int (pvs.length : Int)])
      have eD2 := sp _ _ eD
      have pl := pair_len pp
      have nDp : D ≠ p := ne_of_none eD hp
      refine ⟨_, eD2, ?_, ps ++ [p], Kx.Same.own (sm.trans sp) hD _, by rw [upd_same, List.map_append]; rfl, ?_⟩
      · rw [List.length_map, pl, cnts, List.length_map, List.length_take]
        exact small1000 (by omega)
      · rw [cnts, List.take_succ_eq_append_getElem hi, List.map_append]
        refine pair_append (Paired.imp pp fun p2 kv e => ?_) (.cons ?_ .nil)
        · rw [upd_ne fun z => by rw [z, eD] at e; cases e]
          exact sp _ _ e
        · rw [upd_ne nDp.symm, upd_same, plen]
    · rintro H2 ⟨ps, sm, eD, pp⟩
      rw [clen, List.take_length] at pp
      refine ⟨_, _, rfl, SqL.of eD, fun l o hl od os => ?_⟩
      have sl := same_upd hl (.frz o (.tup (ps.map V.ref)))
      exact q l _ (sm.trans sl) ⟨o, ps, upd_same, od, Paired.imp pp fun _ _ e => sl _ _ e⟩
end
end Kx
namespace Kx
open PySem PySem.Spec PyProof.Rows L2
section
variable {P : Program} {w : World} {K : PySem.W.Frag} {mg : Str → Option Value} {base : Heap}
theorem cnts_nd {F : List Str} {cs : List Con} (G : TabG F cs) : ((cnts cs).map (·.1)).Nodup := by
  have e : (cnts cs).map (·.1) = cs.map (·.w) := by rw [cnts, List.map_map]; rfl
  rw [e]
  refine List.pairwise_iff_getElem.mpr fun i j hi hj hij h => ?_
  rw [List.length_map] at hi hj
  have h' : cs[i].w = cs[j].w := by simpa using h
  rw [G.cons.word _ _ (List.getElem?_eq_getElem hi), G.cons.word _ _ (List.getElem?_eq_getElem hj)] at h'
  have l := G.len.2
  have := kw_inj _ (by omega) _ (by omega) h'
  omega
def spRaw (n : Nat) : Sp := fun vs H Q _ => ∃ (v u : V) (mk : List PV) (F : List Str) (cs : List Con) (t : PV), vs = [v, u] ∧ Is H v (tabPV mk F cs) ∧ TabG F cs ∧ Is H u t ∧ dep t ≤ n ∧ dep t ≤ 100 ∧ ∀ H', Same H H' → Q (.bl (form (cnts cs) false t)) H'
theorem ok_is_raw {n k : Nat} (hk : 1 ≤ k) (T : Txt K mg) (G_is_tree : FnOk P w K mg base CX0 k T.a_is_tree T.d_is_tree ["makers", "value"] (spIsT n)) (G_counts : FnOk P w K mg base CX0 1 T.a_counts T.d_counts ["table"] spCounts) : FnOk P w K mg base CX0 (k+1) T.a_is_raw T.d_is_raw ["table", "value"] (spRaw n) := by
  refine T.F_is_raw.ok sc_is_raw (fun vs H Q E h => ?_) (fun cdv A outer s H vs Q E hr h => ?_)
  · obtain ⟨v, u, mk, F, cs, t, rfl, _⟩ := h; rfl
  · obtain ⟨v, u, mk, F, cs, t, rfl, hI, G, hu0, hn, h100, q⟩ := h
    have hr_is_tree := hr
    have hr_counts : Room 1 _ := hr.mono hk
    refine ⟨_, (pss_one (ps_ret (pe_call G_is_tree hr_is_tree rfl T.m_is_tree T.F_is_tree.kp T.b_is_tree .nil pass0 (pa_cons (pe_call G_counts hr_counts rfl T.m_counts T.F_counts.kp T.b_counts .nil pass0 (pa_cons (pv 0) pa_nil)) (pa_cons (pv 1) pa_nil))))), ?_⟩
    have l := G.len.2
    refine ⟨_, rfl, v, mk, F, cs, rfl, hI, by omega, fun m H' s hm => ?_⟩
    exact ⟨_, rfl, m, _, u, t, rfl, hm, cnts_nd G, by rw [cnts, List.length_map]; omega, hu0.same s, hn, h100, fun H2 s2 => q H2 (s.trans s2)⟩
/-! ### the law's own, small ones -/
def spLSize (n : Nat) : Sp := fun vs H Q _ => ∃ (v : V) (t : List PV) (W : List Str), vs = [v] ∧ Is H v (.tup t) ∧ Rv W (.tup t) ∧ dep (.tup t) ≤ n ∧ ∀ H', Same H H' → Q (.int (vsz (.tup t) : Int)) H'
theorem ok_law_size {n : Nat} (T : Txt K mg) (G_law_size : FnOk P w K mg base CX0 (n+1) T.a_law_size T.d_law_size ["value"] (spLSize n)) : FnOk P w K mg base CX0 (n+2) T.a_law_size T.d_law_size ["value"] (spLSize (n+1)) := by
  refine T.F_law_size.ok sc_law_size (fun vs H Q E h => ?_) (fun cdv A outer s H vs Q E hr h => ?_)
  · obtain ⟨v, t, W, rfl, _⟩ := h; rfl
  · obtain ⟨v, t, W, rfl, hI, hv, hn, q⟩ := h
    have hr_law_size := hr
    refine ⟨_, (pss_one (ps_ret (pe_op op_add pe_int (pe_callB (cr_sum rfl) (by rfl) T.z_sum (by decide +kernel) (pa_cons (pe_lc (own := [("part", 1)]) (g := (gName 1)) (tt := tYes) rfl sc_law_size.nd (pi_tup (pe_slice sl_tup (pv 0) (po_some pe_int) po_none)) (blkOk_by (own := [("part", 1)]) (N := ["value", "part"]) (sc := defScope s_law_size) (by decide +kernel)) (fun _ _ _ _ _ => (pg_name (i := 1) sc_law_size.nd rfl (Or.inl rfl))) (fun _ _ _ _ _ => pts_nil) (fun _ _ _ _ _ => (pe_call G_law_size hr_law_size rfl T.m_law_size T.F_law_size.kp T.b_law_size .nil pass0 (pa_cons (pv 1) pa_nil)))) pa_nil))))), ?_⟩
    obtain ⟨a, w, us, ts, rfl, et, ea, hL, hw, h3, hvL⟩ := rvt_inv hv hI
    cases et
    have hlen := hL.len
    have hd : dep (.tup (.str w :: ts)) = 1 + depL (.str w :: ts) := rfl
    have hd2 : depL ts ≤ depL (.str w :: ts) := by simp only [depL]; omega
    refine ⟨_, rfl, _, rfl, a, _, rfl, .inl (.inl ea), slice1, fun p1 h1 => ?_⟩
    rw [cut1]
    have s1 := same_upd h1 (.tup us)
    refine ⟨p1, rfl, ⟨_, .inl (.inl upd_same)⟩, fun D hD => ?_⟩
    refine lc_tup (K := K) (a := p1) (xs := us) (fun i H2 => Same (upd H p1 (.tup us)) H2 ∧ ∃ ms : List Int, H2 D = some (.lst (ms.map V.int)) ∧ ms.length = i ∧ ms.sum = (vszL (ts.take i) : Int)) ?_ ?_ ?_ ?_
    · exact ⟨same_upd hD _, [], upd_same, rfl, rfl⟩
    · exact fun i H2 _ ⟨sm, _⟩ => .inl (.inl (sm _ _ upd_same))
    · intro i x H2 hx ⟨sm, ms, eD, lm, sum⟩
      obtain ⟨y, ey, hy⟩ := hL.get hx
      have hm := List.mem_of_getElem? ey
      obtain ⟨hi, ey2⟩ := List.getElem?_eq_some_iff.mp ey
      have dy := depL_mem hm
      have yv := mem_RvL hvL y hm
      obtain ⟨wy, tsy, eyt, _⟩ := rv_inv yv
      subst eyt
      refine ⟨rfl, yes_if ⟨_, rfl, x, _, W, rfl, (hy.same s1).same sm, yv, by omega, fun H3 s3 => ?_⟩⟩
      refine ⟨_, s3 _ _ eD, ?_, Kx.Same.own (sm.trans s3) hD _, ms ++ [(vsz (.tup (.str wy :: tsy)) : Int)], by rw [upd_same, List.map_append]; rfl, by rw [List.length_append, lm]; rfl, ?_⟩
      · rw [List.length_map]; exact small1000 (by omega)
      · rw [List.take_succ_eq_append_getElem hi, ey2, List.sum_append, sum]
        have app : ∀ a b : List PV, vszL (a ++ b) = vszL a + vszL b := by
          intro a
          induction a with
          | nil => intro b; simp [vszL]
          | cons x r ih => intro b; simp only [List.cons_append, vszL, ih]; omega
        rw [app]
        simp [vszL]
    · intro H2 ⟨sm, ms, eD, lm, sum⟩
      rw [hlen, List.take_length] at sum
      refine ⟨D, ms, rfl, SqL.of eD, _, _, rfl, rfl, ?_⟩
      rw [sum]
      have e : (1 : Int) + (vszL ts : Int) = (vsz (.tup (.str w :: ts)) : Int) := by simp only [vsz]; omega
      show Q (.int (1 + (vszL ts : Int))) H2
      rw [e]
      exact q H2 (s1.trans sm)
end
end Kx
namespace Kx
open PySem PySem.Spec PyProof.Rows L2
section
variable {P : Program} {w : World} {K : PySem.W.Frag} {mg : Str → Option Value} {base : Heap}
theorem lvL_mem : ∀ {l : List PV} {t : PV} {z : Str}, t ∈ l → z ∈ lv t → z ∈ lvL l
  | a :: r, t, z, h, hz => by
    simp only [lvL]
    rcases List.mem_cons.mp h with rfl | h
    · exact List.mem_append_left _ hz
    · exact List.mem_append_right _ (lvL_mem h hz)
def spLPut (n : Nat) : Sp := fun vs H Q _ => ∃ (p : Addr) (mk : List (Str × Int)) (v : V) (t : PV) (al : AL), vs = [v, .ref p] ∧ AsD H p al ∧ Is H v t ∧ Ar mk ∧ form mk true t = true ∧ (∀ z ∈ lv t, get al z ≠ none) ∧ dep t ≤ n ∧ ∀ v' H', Same H H' → Is H' v' (psub al t) → Q v' H'
theorem ok_law_put {n : Nat} (T : Txt K mg) (G_law_put : FnOk P w K mg base CX0 (n+1) T.a_law_put T.d_law_put ["term", "trees"] (spLPut n)) : FnOk P w K mg base CX0 (n+2) T.a_law_put T.d_law_put ["term", "trees"] (spLPut (n+1)) := by
  refine T.F_law_put.ok sc_law_put (fun vs H Q E h => ?_) (fun cdv A outer s H vs Q E hr h => ?_)
  · obtain ⟨p, mk, v, t, al, rfl, _⟩ := h; rfl
  · obtain ⟨p, mk, v, t, al, rfl, hA, hI, ar, hW, hcv, hn, q⟩ := h
    have hu := hu_of hr
    have hr_law_put := hr
    refine ⟨_, (pss_cons (ps_if (pt_val (pe_callB call_isi (by rfl) T.z_isinstance (by decide +kernel) (pa_cons (pv 0) (pa_cons (pe_bltn rfl T.z_str (by decide +kernel) (show RelV (V.ty "str") (Value.type "str") from rfl)) pa_nil)))) (pss_one (ps_ret (pe_dget hu (pv 1) (pv 0) (fun _ _ => rfl)))) pss_nil)
    (pss_one (ps_ret (pe_op op_catT (pe_tup (pa_cons (pe_ix ix_tup (pv 0) pe_int (fun _ _ => rfl)) pa_nil)) (pe_callTy call_tuple_of (by rfl) T.z_tuple (by decide +kernel) (pa_cons (pe_lc (own := [("part", 2)]) (g := (gName 2)) (tt := tYes) rfl sc_law_put.nd (pi_tup (pe_slice sl_tup (pv 0) (po_some pe_int) po_none)) (blkOk_by (own := [("part", 2)]) (N := ["term", "trees", "part"]) (sc := defScope s_law_put) (by decide +kernel)) (fun _ _ _ _ _ => (pg_name (i := 2) sc_law_put.nd rfl (Or.inl rfl))) (fun _ _ _ _ _ => pts_nil) (fun _ _ _ _ _ => (pe_call G_law_put hr_law_put rfl T.m_law_put T.F_law_put.kp T.b_law_put .nil pass0 (pa_cons (pv 2) (pa_cons (pv 1) pa_nil))))) pa_nil)))))), ?_⟩
    obtain ⟨u, ty, kt⟩ := hI.ty (K := K)
    refine ⟨_, rfl, _, _, u, _, _, rfl, .ty _, ty, kit_str kt, _, rfl, ite2 (fun c => ?_) (fun c => ?_)⟩
    · cases t with
      | oth => cases c
      | tup ts => cases c
      | str z =>
      cases hI with
      | str z k =>
      obtain ⟨kvs, e, b⟩ := hA
      rcases pair_val z b with ⟨_, g⟩ | ⟨v, t, a, g, hI⟩
      · exact absurd g (hcv z (by simp [lv]))
      · refine ⟨_, rfl, _, rfl, p, v, rfl, (by have w := DGet.k (k := Sum.inr z) e; rw [a] at w; exact w), ?_⟩
        exact q _ H (.refl _) (by simp only [psub, g]; exact hI)
    · obtain ⟨a, w, vs, ts, rfl, rfl, ea, hL, kw, lk, l2, hWl⟩ := form_inv ar hI hW (Bool.eq_false_iff.mpr c)
      have hlen := hL.len
      rw [dep_cons] at hn
      refine ⟨_, rfl, a, _, _, _, rfl, rfl, .inl (.inl ea), atI_nat (j := 0) rfl, (by show 1 ≤ sizeLine; decide), fun t1 ht1 => ?_⟩
      have s0 := same_upd ht1 (.tup [.str w])
      refine ⟨_, rfl, _, rfl, a, _, rfl, .inl (.inl (s0 _ _ ea)), slice1, fun p1 h1 => ?_⟩
      rw [cut1]
      have s1 := same_upd h1 (.tup vs)
      have s01 := s0.trans s1
      refine ⟨p1, rfl, ⟨_, .inl (.inl upd_same)⟩, fun D hD => ?_⟩
      refine lc_tup (K := K) (a := p1) (xs := vs) (fun i H2 => Same (upd (upd H t1 (.tup [.str w])) p1 (.tup vs)) H2 ∧ ∃ ws, H2 D = some (.lst ws) ∧ IsL H2 ws (psubL al (ts.take i)) ∧ ws.length = i) ?_ ?_ ?_ ?_
      · exact ⟨same_upd hD _, [], upd_same, .nil, rfl⟩
      · exact fun i H2 _ ⟨sm, _⟩ => .inl (.inl (sm _ _ upd_same))
      · intro i x H2 hx ⟨sm, ws, eD, hW2, wl⟩
        obtain ⟨y, ey, hy⟩ := hL.get hx
        have hm := List.mem_of_getElem? ey
        have dy := depL_mem hm
        have hi := (List.getElem?_eq_some_iff.mp hx).1
        have s02 := s01.trans sm
        refine ⟨rfl, yes_if ?_⟩
        refine ⟨_, rfl, _, rfl, p, mk, x, y, al, rfl, hA.same s02, hy.same s02, ar, formL_mem hWl y hm, fun z hz => hcv z (by simp only [lv]; exact lvL_mem hm hz), by omega, fun v' H3 s3 hv' => ?_⟩
        refine ⟨ws, s3 _ _ eD, small1000 (by omega), Kx.Same.own (sm.trans s3) hD _, ws ++ [v'], upd_same, ?_, by rw [List.length_append, wl]; rfl⟩
        rw [psubL_take ey]
        exact ((hW2.same s3).append (.cons hv' .nil)).wr (s3 _ _ eD)
      · intro H2 ⟨sm, ws, eD, hW2, wl⟩
        rw [hlen, List.take_length] at hW2
        have e1 := sm _ _ (s1 _ _ upd_same)
        refine ⟨D, ws, rfl, .inl ⟨SqL.of eD, fun l hl => ?_⟩⟩
        have s5 := same_upd hl (.tup ws)
        have s25 := (s01.trans sm).trans s5
        refine ⟨t1, l, _, _, rfl, rfl, .inl (.inl (s5 _ _ e1)), .inl (.inl upd_same), by simp, ?_, fun e => ?_, fun _ p5 h5 => ?_⟩
        · rw [List.length_singleton, wl]; exact Nat.le_of_lt (small1000 (by omega))
        · have e0 : ws.length = 0 := by rw [e]; rfl
          have t0 : ts = [] := List.length_eq_zero_iff.mp (by omega)
          refine q _ _ s25 ?_
          subst t0
          simp only [psub, psubL]
          exact .tup (s5 _ _ e1) (.cons (.str w kw) .nil)
        · have s6 := same_upd h5 (.tup ([V.str w] ++ ws))
          refine q _ _ (s25.trans s6) ?_
          simp only [psub]
          exact .tup upd_same (.cons (.str w kw) (hW2.same (s5.trans s6)))
end
end Kx
set_option maxHeartbeats 1000000
/-! for a, b in zip(t, l): a tuple and a list of one length. -/
namespace Kx
open PySem PySem.Spec PyProof.Rows L2
/-- the pairs of a tuple at a and a list at b -/
def ItzM (K : PySem.W.Frag) (a b : Addr) : It :=
  ⟨fun i H => ∃ (xs ys : List V) (x y : V), SqT K H a xs ∧ SqL K H b ys ∧ xs[i]? = some x ∧ ys[i]? = some y,
   fun i H v H' => ∃ t x y, v = .ref t ∧ H t = none ∧ H' = upd H t (.tup [x, y]) ∧ (∀ xs, SqT K H a xs → xs[i]? = some x) ∧ ∀ ys, SqL K H b ys → ys[i]? = some y,
   fun i H => ∃ xs ys : List V, SqT K H a xs ∧ SqL K H b ys ∧ i = xs.length ∧ i = ys.length⟩
theorem turn_zipM {P : Program} {w : World} {K : PySem.W.Frag} {elts : List Expr} {kk : Nat} {tpos : Pos} {a b z TI TO j1 j2 : Addr} (S : ZipSep2 z TI TO j1 j2 [j1, a] [j2, b]) (na : a ≠ j1) (nb : b ≠ j2) :
    Turn P w K (.Tuple elts kk tpos) (ItzM K a b) [z, TI, TO, j1, j2] z (fun i h => IsZip h z TI TO .none ∧ IsTupOf2 h TI (.ref j1) (.ref j2) ∧ (∃ x y, IsTupOf2 h TO x y) ∧ h.IsTupleIter j1 a i ∧ h.IsListIter j2 b i) where
  mem := List.mem_cons_self ..
  obj := by
    rintro i h ⟨h1, h2, ⟨x, y, h3⟩, ⟨o4, e4, _, d4⟩, ⟨o5, e5, _, d5⟩⟩ c hc
    simp only [List.mem_cons, List.not_mem_nil, or_false] at hc
    rcases hc with rfl | rfl | rfl | rfl | rfl
    · exact ⟨_, h1, fun v q => nomatch q⟩
    · exact ⟨_, h2, fun v q => nomatch q⟩
    · exact ⟨_, h3, fun v q => nomatch q⟩
    · exact ⟨o4, e4, fun v q => by rw [d4] at q; cases q⟩
    · exact ⟨o5, e5, fun v q => by rw [d5] at q; cases q⟩
  keep := by
    rintro i h h' ⟨h1, h2, ⟨x, y, h3⟩, h4, h5⟩ k
    exact ⟨k z (by simp) _ h1, k TI (by simp) _ h2, ⟨x, y, k TO (by simp) _ h3⟩, h4.at fun o q => k j1 (by simp) o q, h5.at fun o q => k j2 (by simp) o q⟩
  item := by
    intro X hP hw hK hc i pins s σ H E I hf st hg
    subst hP hw hK
    obtain ⟨h1, h2, ⟨x0, y0, h3⟩, h4, h5⟩ := st
    obtain ⟨xs, ys, x, y, hqx, hqy, hx, hy⟩ := hg
    obtain ⟨its, rv, p, _⟩ := I.tuple hqx
    obtain ⟨its2, rv2, p2, _⟩ := I.list hqy
    obtain ⟨u, hu, ru⟩ := rv.get hx
    obtain ⟨u2, hu2, ru2⟩ := rv2.get hy
    have hh : X.A.handled = none := I.ok.hd hc
    have b1 : i < its.toArray.size := by simpa using (List.getElem?_eq_some_iff.mp hu).1
    have b2 : i < its2.toArray.size := by simpa using (List.getElem?_eq_some_iff.mp hu2).1
    have zl : z < s.heap.objs.size := Heap.lt_size h1
    refine wpAny_pyNext_zipD2_item S (Draws.tuple (A := X.A.in1) hh j1 a na its.toArray) (Draws.list (A := X.A.in1) hh j2 b nb its2.toArray) h1 h2 h3 ⟨h4, p⟩ ⟨h5, p2.isList⟩ b1 b2 fun v1 v2 g tk e1 e2 g1 g3 g4 g5 gT gs gk => ?_
    have q1 : v1 = u := by simpa [hu] using e1.symm
    have q2 : v2 = u2 := by simpa [hu2] using e2.symm
    subst q1 q2
    refine ⟨_, rfl, wpAny_letOwnedTupleGo_zip (s := { s with heap := g, toks := tk }) g1 fun g' k1 sb => ?_⟩
    have out : ∀ c, c ≠ z → g'.get? c = g.get? c := fun c n => sb.2 c n
    have nw : g'.get? s.heap.objs.size = some { cls := .type "tuple", data := .seq #[v1, v2] } := (out _ (Nat.ne_of_gt zl)).trans gT
    have fp : ∀ {c : Addr} {o : Obj}, c ∉ [z, TI, TO, j1, j2] → s.heap.get? c = some o → g'.get? c = some o := fun {c o} n e => by
      simp only [List.mem_cons, List.not_mem_nil, or_false, not_or] at n
      exact (out c n.1).trans (gk c o n.1 n.2.2.1 n.2.2.2.1 n.2.2.2.2 e)
    have made : ObjOk X.prog X.w (upd H s.heap.objs.size (.tup [x, y])) g' s.heap.objs.size (.tup [x, y]) := ⟨by show 2 ≤ sizeLine; decide, [v1, v2], .cons ru (.cons ru2 .nil), ⟨_, nw, rfl, _, rfl⟩⟩
    have J := I.turnedNew (t' := tk) (ch := [z, TI, TO, j1, j2]) (fun c o n e => fp n e) hf (Nat.le_refl _) made
    refine ⟨.ref s.heap.objs.size, _, J, rfl, ⟨_, x, y, rfl, I.hok.fresh (Nat.le_refl _), rfl, fun l hl => by rw [I.tuple_inj hl hqx]; exact hx, fun l hl => by rw [I.list_inj hl hqy]; exact hy⟩, ⟨k1, ?_, ⟨v1, v2, (out _ S.TOz).trans g3⟩, ?_, ?_⟩, fun c hcm => ?_⟩
    · exact (out _ S.TIz).trans (gk _ _ S.TIz S.TITO S.TIi1 S.TIi2 h2)
    · exact g4.1.at fun o q => (out _ S.zi1.symm).trans q
    · exact g5.1.at fun o q => (out _ S.zi2.symm).trans q
    · have lt : c < s.heap.objs.size := by
        simp only [List.mem_cons, List.not_mem_nil, or_false] at hcm
        rcases hcm with q | q | q | q | q
        · rw [q]; exact zl
        · rw [q]; exact Heap.lt_size h2
        · rw [q]; exact Heap.lt_size h3
        · rw [q]; obtain ⟨_, e, _⟩ := h4; exact Heap.lt_size e
        · rw [q]; obtain ⟨_, e, _⟩ := h5; exact Heap.lt_size e
      rw [upd_ne (Nat.ne_of_lt lt)]
      exact (hf c hcm).1
  done := by
    intro X hP hw hK hc i pins s σ H E I hf st hg
    subst hP hw hK
    obtain ⟨h1, h2, ⟨x0, y0, h3⟩, h4, h5⟩ := st
    obtain ⟨xs, ys, hqx, hqy, l1, l2⟩ := hg
    obtain ⟨its, rv, p, _⟩ := I.tuple hqx
    obtain ⟨its2, rv2, p2, _⟩ := I.list hqy
    have hh : X.A.handled = none := I.ok.hd hc
    have m1 : i = its.toArray.size := by rw [List.size_toArray, ← rv.length]; exact l1
    have m2 : i = its2.toArray.size := by rw [List.size_toArray, ← rv2.length]; exact l2
    refine wpAny_pyNext_zipD2_end S (Draws.tuple (A := X.A.in1) hh j1 a na its.toArray) (Draws.list (A := X.A.in1) hh j2 b nb its2.toArray) h1 h2 h3 ⟨h4, p⟩ ⟨h5, p2.isList⟩ (by omega) (by omega) (.inl m1) fun g tk gk => ?_
    refine ⟨rfl, I.turnedL (t' := tk) (ch := [z, TI, TO, j1, j2]) (fun c o n e => ?_) hf⟩
    simp only [List.mem_cons, List.not_mem_nil, or_false, not_or] at n
    exact gk c o n.1 n.2.2.1 n.2.2.2.1 n.2.2.2.2 e
  self := fun A i s Q E st h => wpAny_pyIter_zip st.1 h
theorem sepM (n a b : Nat) (la : a < n) (lb : b < n) : ZipSep2 (n + 4) (n + 2) (n + 3) n (n + 1) [n, a] [n + 1, b] := by
  have q : ∀ x y z : Nat, x ≠ y → x ≠ z → x ∉ [y, z] := fun x y z h1 h2 h => by
    rcases List.mem_cons.mp h with h | h
    · exact h1 h
    · exact h2 (List.mem_singleton.mp h)
  exact ⟨by show ¬ (n + 2 = n + 4); omega, by show ¬ (n + 3 = n + 4); omega, by show ¬ (n + 2 = n + 3); omega, by show ¬ (n + 2 = n); omega, List.mem_cons_self .., q _ _ _ (by omega) (by omega), q _ _ _ (by omega) (by omega), by show ¬ (n + 2 = n + 1); omega, List.mem_cons_self .., q _ _ _ (by omega) (by omega), q _ _ _ (by omega) (by omega), q _ _ _ (by omega) (by omega), q _ _ _ (by omega) (by omega)⟩
/-- zip(t, l) -/
def iZipM (K : PySem.W.Frag) (ta : TA) : TI := fun σ H R => ta σ H fun vs H1 => ∃ a b xs ys, vs = [.ref a, .ref b] ∧ SqT K H1 a xs ∧ SqL K H1 b ys ∧ R (ItzM K a b) H1
theorem pi_zipM {X : Cx} {e e2 : Expr} {ta : TA} {p pos tpos : Pos} {elts : List Expr} {kk : Nat} (hg : Gl X "zip") (hm : X.mg "zip" = none) (ha : PA X [e, e2] ta)
    (hs : starEach [e, e2] X.env = (false, eval e X.env) :: starEach [e2] X.env := by rfl) (hpl : (backTo pos (starEach [e2] X.env)).any (·.1) = false := by rfl) :
    PI X (.Tuple elts kk tpos) (.Call (.Name "zip" p) [e, e2] [] pos) (iZipM X.K ta) := by
  refine ⟨fun pins s σ H R I h => Call_ (ld_blt I hg hm PyProof.Rows.boot_zip (PyProof.Rows.callWith_type1 (thn (ha.run pos pins s σ H _ I h) fun us s1 ⟨vs, H1, J, rel, a, b, xs, ys, e, hx, hy, q⟩ => ?_) hs hpl))⟩
  subst e
  obtain ⟨u1, u2, rfl, r1, r2⟩ := vals2 rel
  cases r1
  cases r2
  obtain ⟨its, _, p1, _⟩ := J.tuple hx
  obtain ⟨its2, _, p2, _⟩ := J.list hy
  have la : a < s1.heap.objs.size := by obtain ⟨o, ho, _⟩ := id p1; exact Heap.lt_size ho
  have lb : b < s1.heap.objs.size := by obtain ⟨o, ho, _⟩ := id p2.isList; exact Heap.lt_size ho
  refine zip_begins2 (begins_tuple a its.toArray) (begins_list b its2.toArray) p1 p2.isList fun g hz hTI hTO i1 i2 sz kp => wpAny_pyIter_zip hz ?_
  have J2 : Inv X pins σ H1 { s1 with heap := g } := J.kept (t' := s1.toks) kp
  have fresh : ∀ c, c ∈ [s1.heap.objs.size + 4, s1.heap.objs.size + 2, s1.heap.objs.size + 3, s1.heap.objs.size, s1.heap.objs.size + 1] → FpOk X pins H1 c := fun c hc => by
    have le : s1.heap.objs.size ≤ c := by
      simp only [List.mem_cons, List.not_mem_nil, or_false] at hc
      omega
    exact J.fpOk le (J.hok.fresh le)
  refine ⟨_, _, _, _, H1, rfl, J2, turn_zipM (a := a) (b := b) (z := s1.heap.objs.size + 4) (TI := s1.heap.objs.size + 2) (TO := s1.heap.objs.size + 3) (j1 := s1.heap.objs.size) (j2 := s1.heap.objs.size + 1) ?_ (Nat.ne_of_lt la) (Nat.ne_of_lt (Nat.lt_succ_of_lt lb)), ⟨hz, hTI, ⟨_, _, hTO⟩, ⟨_, i1, rfl, rfl⟩, ⟨_, i2, rfl, rfl⟩⟩, fresh, q⟩
  exact sepM _ a b la lb
/-- the loop over it -/
theorem for_zipM {K : PySem.W.Frag} {a b : Addr} {xs ys : List V} {g : TG} {tb : TS} {D : Ends} {σ : L2.St} {H : Hp} (hl : xs.length = ys.length) (Pv : Nat → L2.St → Hp → Prop) (h0 : Pv 0 σ H) (hq : ∀ i σ H, Pv i σ H → SqT K H a xs ∧ SqL K H b ys)
    (hs : ∀ (i : Nat) (x y : V) (t : Addr) (σ : L2.St) (H : Hp), xs[i]? = some x → ys[i]? = some y → Pv i σ H → H t = none → g (.ref t) σ (upd H t (.tup [x, y])) fun σ2 H2 => tb { D with nx := Pv (i + 1), ct := Pv (i + 1), bk := D.nx } σ2 H2) (hd : ∀ σ H, Pv xs.length σ H → D.nx σ H) :
    ∃ W : Nat → Nat → L2.St → Hp → Prop, (∃ m, W 0 m σ H) ∧ ∀ i m σ H, W i m σ H →
      ((ItzM K a b).stop i H ∧ D.nx σ H) ∨ ((ItzM K a b).go i H ∧ ∃ N : L2.St → Hp → Prop, (∀ σ' H', N σ' H' → ∃ m', m' < m ∧ W (i + 1) m' σ' H') ∧ ∀ v H', (ItzM K a b).yld i H v H' → g v σ H' fun σ2 H2 => tb { D with nx := N, ct := N, bk := D.nx } σ2 H2) := by
  refine ⟨fun i m σ H => m = xs.length - i ∧ i ≤ xs.length ∧ Pv i σ H, ⟨_, rfl, Nat.zero_le _, h0⟩, fun i m σ H w => ?_⟩
  obtain ⟨rfl, le, pv⟩ := w
  obtain ⟨qx, qy⟩ := hq i σ H pv
  rcases Nat.lt_or_ge i xs.length with lt | ge
  · have ex : xs[i]? = some xs[i] := List.getElem?_eq_getElem lt
    have ey : ys[i]? = some (ys[i]'(by omega)) := List.getElem?_eq_getElem _
    refine .inr ⟨⟨xs, ys, _, _, qx, qy, ex, ey⟩, Pv (i + 1), fun σ' H' p' => ⟨xs.length - (i + 1), by omega, rfl, lt, p'⟩, ?_⟩
    rintro v H' ⟨t, x, y, rfl, nt, rfl, kx, ky⟩
    exact hs i x y t σ H (kx xs qx) (ky ys qy) pv nt
  · have e : i = xs.length := Nat.le_antisymm le ge
    exact .inl ⟨⟨xs, ys, qx, qy, e, e.trans hl⟩, hd σ H (e ▸ pv)⟩
end Kx
namespace Kx
open PySem PySem.Spec PyProof.Rows L2
section
variable {P : Program} {w : World} {K : PySem.W.Frag} {mg : Str → Option Value} {base : Heap}
/-! ### the trees for what is asked -/
/-- a kind: no index, or a family and a tree -/
def KindIs (H : Hp) (v : V) : Option (Str × PV) → Prop
  | none => v = .non
  | some k => Is H v (.tup [.str k.1, k.2])
inductive KindL (H : Hp) : List V → List (Option (Str × PV)) → Prop
  | nil : KindL H [] []
  | cons {v : V} {vs : List V} {k : Option (Str × PV)} {ks : List (Option (Str × PV))} (h : KindIs H v k) (t : KindL H vs ks) : KindL H (v :: vs) (k :: ks)
theorem KindIs.same {H H' : Hp} (s : Same H H') {v : V} {k : Option (Str × PV)} (h : KindIs H v k) : KindIs H' v k := by
  cases k with
  | none => exact h
  | some k => exact Is.same s h
theorem KindL.same {H H' : Hp} (s : Same H H') : ∀ {vs : List V} {ks : List (Option (Str × PV))}, KindL H vs ks → KindL H' vs ks
  | _, _, .nil => .nil
  | _, _, .cons h t => .cons (h.same s) (t.same s)
theorem KindL.len {H : Hp} : ∀ {vs : List V} {ks : List (Option (Str × PV))}, KindL H vs ks → vs.length = ks.length
  | _, _, .nil => rfl
  | _, _, .cons _ t => by simp [t.len]
theorem KindL.get {H : Hp} : ∀ {vs : List V} {ks : List (Option (Str × PV))}, KindL H vs ks → ∀ {i : Nat} {x : V}, vs[i]? = some x → ∃ k, ks[i]? = some k ∧ KindIs H x k
  | _, _, .nil, i, x, h => by simp at h
  | _, _, .cons h t, 0, x, e => by cases (Option.some.inj e); exact ⟨_, rfl, h⟩
  | _, _, .cons h t, i + 1, x, e => t.get (by simpa using e)
/-- does each kind have the family that is asked for? -/
def goodK : List (Str × PV) → List (Option (Str × PV)) → Bool
  | p :: ps, some k :: ks => p.1 == k.1 && goodK ps ks
  | _ :: _, none :: _ => false
  | _, _ => true
def treeK : Option (Str × PV) → PV
  | none => .oth
  | some k => k.2
/-- what the program finds -/
noncomputable def treesFor (ps : List (Str × PV)) (ks : List (Option (Str × PV))) : Option AL :=
  if goodK ps ks = true then (if (fitL [] (ps.map (·.2)) (ks.map treeK)).1 = true then some (fitL [] (ps.map (·.2)) (ks.map treeK)).2 else none) else none
theorem goodK_bad : ∀ {ps : List (Str × PV)} {ks : List (Option (Str × PV))} {i : Nat} {p : Str × PV} {k : Option (Str × PV)}, ps[i]? = some p → ks[i]? = some k → (∀ x, k = some x → p.1 ≠ x.1) → goodK ps ks = false
  | p :: ps, k :: ks, 0, _, _, h1, h2, h => by
    cases (Option.some.inj h1)
    cases (Option.some.inj h2)
    cases k with
    | none => rfl
    | some x => simp only [goodK, Bool.and_eq_false_iff]; exact .inl (beq_eq_false_iff_ne.mpr (h x rfl))
  | p :: ps, k :: ks, i + 1, _, _, h1, h2, h => by
    have := goodK_bad (ps := ps) (ks := ks) (by simpa using h1) (by simpa using h2) h
    cases k with
    | none => rfl
    | some x => simp only [goodK, this, Bool.and_false]
theorem goodK_all : ∀ {ps : List (Str × PV)} {ks : List (Option (Str × PV))}, (∀ (i : Nat) p k, ps[i]? = some p → ks[i]? = some k → ∃ x, k = some x ∧ p.1 = x.1) → goodK ps ks = true
  | [], _, _ => by simp [goodK]
  | _ :: _, [], _ => by simp [goodK]
  | p :: ps, k :: ks, h => by
    obtain ⟨x, rfl, e⟩ := h 0 p k rfl rfl
    simp only [goodK, Bool.and_eq_true, beq_iff_eq]
    exact ⟨e, goodK_all fun i p k a b => h (i + 1) p k (by simpa using a) (by simpa using b)⟩
theorem mk_ar : Ar MK := fun w k h => by
  unfold look at h
  cases e : MK.find? (fun kv => kv.1 == w) with
  | none => rw [e] at h; cases h
  | some kv =>
    rw [e] at h
    have m := List.mem_of_find?_eq_some e
    have h2 : kv.2 = k := Option.some.inj h
    subst h2
    have all : ∀ kv ∈ MK, kv.2 ≤ 2 := by decide +kernel
    exact all kv m
def spTrees (n : Nat) : Sp := fun vs H Q _ => ∃ (a b : Addr) (ps : List (Str × PV)) (ks : List (Option (Str × PV))) (kvs : List V), vs = [.ref a, .ref b] ∧ Is H (.ref a) (.tup (ps.map prPV)) ∧ H b = some (.lst kvs) ∧ KindL H kvs ks ∧ ps.length = ks.length ∧ ps.length ≤ 3 ∧
  (∀ p ∈ ps, form MK true p.2 = true ∧ dep p.2 ≤ n) ∧ (∀ k ∈ ks, ∀ x, k = some x → form MK true x.2 = true ∧ Gr x.2 ∧ dep x.2 ≤ 60) ∧ lcL (ps.map (·.2)) ≤ 100000 ∧
  (∀ al, treesFor ps ks = some al → ∀ f H', Same H H' → H f = none → AsD H' f al → Q (.ref f) H') ∧ (treesFor ps ks = none → ∀ H', Same H H' → Q .non H')
theorem ok_trees_for {n : Nat} (T : Txt K mg) (G_fitted : FnOk P w K mg base CX0 (n+2) T.a_fitted T.d_fitted ["patterns", "terms"] (spFitted n)) : FnOk P w K mg base CX0 (n+3) T.a_trees_for T.d_trees_for ["asked", "kinds"] (spTrees n) := by
  refine T.F_trees_for.ok sc_trees_for (fun vs H Q E h => ?_) (fun cdv A outer s H vs Q E hr h => ?_)
  · obtain ⟨a, b, ps, ks, kvs, rfl, _⟩ := h; rfl
  · obtain ⟨a, b, ps, ks, kvs, rfl, hI, eb, hK, hl, l3, fp, fk, hlc, q1, q2⟩ := h
    have hr_fitted := hr
    refine ⟨_, (pss_cons (ps_for PassesOwn.never rfl (pi_zipM (by rfl) T.z_zip (pa_cons (pv 0) (pa_cons (pv 1) pa_nil))) (pg_tup rfl (pgs_cons (pg_tup rfl (pgs_cons (pg_name (i := 2) sc_trees_for.nd rfl (Or.inl rfl)) (pgs_cons (pg_name (i := 3) sc_trees_for.nd rfl (Or.inl rfl)) pgs_nil))) (pgs_cons (pg_name (i := 4) sc_trees_for.nd rfl (Or.inl rfl)) pgs_nil)))
    (pss_one (ps_if (PW.pt (pw_or (pt_cmpR op_isN (pv 4) pe_non (nomark _)) (pw_or1 (pt_cmpR op_ne (pe_ix ix_tup (pv 4) pe_int (fun _ _ => rfl)) (pv 2) (nomark _))))) (pss_one (ps_ret pe_non)) pss_nil)))
    (pss_one (ps_ret (pe_call G_fitted hr_fitted rfl T.m_fitted T.F_fitted.kp T.b_fitted .nil pass0 (pa_cons (pe_lc (own := [("_", 3), ("term", 5)]) (g := (gTup K 2 (gCons (gName 3) (gCons (gName 5) gNil)))) (tt := tYes) rfl sc_trees_for.nd (pi_tup (pv 0)) (blkOk_by (own := [("_", 3), ("term", 5)]) (N := ["asked", "kinds", "family", "_", "kind", "term", "tree"]) (sc := defScope s_trees_for) (by decide +kernel)) (fun _ _ _ _ _ => (pg_tup rfl (pgs_cons (pg_name (i := 3) sc_trees_for.nd rfl (Or.inl rfl)) (pgs_cons (pg_name (i := 5) sc_trees_for.nd rfl (Or.inl rfl)) pgs_nil)))) (fun _ _ _ _ _ => pts_nil) (fun _ _ _ _ _ => (pv 5))) (pa_cons (pe_lc (own := [("_", 3), ("tree", 6)]) (g := (gTup K 2 (gCons (gName 3) (gCons (gName 6) gNil)))) (tt := tYes) rfl sc_trees_for.nd (pi_list (pv 1)) (blkOk_by (own := [("_", 3), ("tree", 6)]) (N := ["asked", "kinds", "family", "_", "kind", "term", "tree"]) (sc := defScope s_trees_for) (by decide +kernel)) (fun _ _ _ _ _ => (pg_tup rfl (pgs_cons (pg_name (i := 3) sc_trees_for.nd rfl (Or.inl rfl)) (pgs_cons (pg_name (i := 6) sc_trees_for.nd rfl (Or.inl rfl)) pgs_nil)))) (fun _ _ _ _ _ => pts_nil) (fun _ _ _ _ _ => (pv 6))) pa_nil)))))), ?_⟩
    obtain ⟨a', avs, ea', ea, aL⟩ := hI.tup_inv
    cases ea'
    have al := aL.len
    rw [List.length_map] at al
    have kl := hK.len
    refine ⟨_, rfl, _, rfl, a, b, avs, kvs, rfl, .inl (.inl ea), SqL.of eb, ?_⟩
    refine for_zipM (K := K) (a := a) (b := b) (xs := avs) (ys := kvs) (by omega) (fun i σ H2 => ∃ y2 y3 y4, σ = [some (.ref a), some (.ref b), y2, y3, y4, none, none] ∧ Same H H2 ∧ ∀ j p k, j < i → ps[j]? = some p → ks[j]? = some k → ∃ x, k = some x ∧ p.1 = x.1) ?_ ?_ ?_ ?_
    · exact ⟨none, none, none, rfl, .refl _, fun j p k h => by omega⟩
    · exact fun i σ H2 ⟨_, _, _, _, sm, _⟩ => ⟨.inl (.inl (sm _ _ ea)), SqL.of (sm _ _ eb)⟩
    · rintro i x y t σ H2 hx hy ⟨y2, y3, y4, rfl, sm, hall⟩ ht
      have st := same_upd ht (.tup [x, y])
      obtain ⟨z, ez, iz⟩ := aL.get hx
      rw [List.getElem?_map] at ez
      obtain ⟨p, hp, rfl⟩ := Option.map_eq_some_iff.mp ez
      obtain ⟨k, hk, ik⟩ := hK.get hy
      obtain ⟨xa, xvs, rfl, ex, ixL⟩ := iz.tup_inv
      cases ixL with
      | @cons fv _ _ _ ifv ixL =>
      cases ixL with
      | @cons tv _ _ _ itv ixL =>
      cases ixL
      cases ifv.str_inv
      refine ⟨t, _, rfl, .inl (.inl upd_same), rfl, _, _, rfl, xa, _, rfl, .inl (.inl (st _ _ (sm _ _ ex))), rfl, _, _, rfl, _, _, rfl, rfl, _, _, rfl, rfl, ?_⟩
      have s2 := sm.trans st
      refine ⟨_, rfl, rfl, _, rfl, ?_⟩
      cases k with
      | none =>
        have e : y = .non := ik
        subst e
        have bad : treesFor ps ks = none := by
          unfold treesFor
          rw [if_neg (by rw [goodK_bad hp hk fun x e => by cases e]; exact Bool.false_ne_true)]
        exact iteT (iteT (q2 bad _ s2))
      | some k =>
        obtain ⟨ka, kvs2, rfl, ek, kL⟩ := Is.tup_inv ik
        cases kL with
        | @cons gv _ _ _ igv kL =>
        cases igv.str_inv
        refine iteF ⟨_, rfl, ka, _, _, _, rfl, rfl, .inl (.inl (s2 _ _ ek)), atI_nat (j := 0) rfl, _, rfl, rfl, _, rfl, ?_⟩
        by_cases e : k.1 = p.1
        · refine ite2 (fun c => ?_) (fun _ => ⟨_, _, _, rfl, s2, fun j p' k' hj h1 h2 => ?_⟩)
          · rw [e] at c; simp at c
          · rcases Nat.lt_succ_iff_lt_or_eq.mp hj with h | h
            · exact hall j p' k' h h1 h2
            · subst h
              rw [hp] at h1
              rw [hk] at h2
              cases h1
              cases h2
              exact ⟨_, rfl, e.symm⟩
        · have bad : treesFor ps ks = none := by
            unfold treesFor
            rw [if_neg (by rw [goodK_bad hp hk fun x ex q => by cases ex; exact e q.symm]; exact Bool.false_ne_true)]
          refine ite2 (fun _ => q2 bad _ s2) (fun c => absurd ?_ c)
          simp [e]
    · rintro σ H2 ⟨y2, y3, y4, rfl, sm, hall⟩
      have good : goodK ps ks = true := goodK_all fun i p k h1 h2 => hall i p k (by have := (List.getElem?_eq_some_iff.mp h1).1; omega) h1 h2
      have eT : treesFor ps ks = if (fitL [] (ps.map (·.2)) (ks.map treeK)).1 = true then some (fitL [] (ps.map (·.2)) (ks.map treeK)).2 else none := by unfold treesFor; rw [if_pos good]
      refine ⟨_, rfl, a, rfl, ⟨_, .inl (.inl (sm _ _ ea))⟩, fun D hD => ?_⟩
      have sD := same_upd hD (.lst [])
      refine lc_tup (K := K) (a := a) (xs := avs) (fun i H3 => Same H2 H3 ∧ ∃ ws, H3 D = some (.lst ws) ∧ IsL H3 ws ((ps.map (·.2)).take i) ∧ ws.length = i) ⟨sD, [], upd_same, .nil, rfl⟩ (fun i H3 _ ⟨s3, _⟩ => .inl (.inl (s3 _ _ (sm _ _ ea)))) ?_ ?_
      · rintro i x H3 hx ⟨s3, ws, eD, wL, wl⟩
        obtain ⟨z, ez, iz⟩ := aL.get hx
        rw [List.getElem?_map] at ez
        obtain ⟨p, hp, rfl⟩ := Option.map_eq_some_iff.mp ez
        obtain ⟨hi, ep⟩ := List.getElem?_eq_some_iff.mp hp
        obtain ⟨xa, xvs, rfl, ex, ixL⟩ := iz.tup_inv
        cases ixL with
        | @cons fv _ _ _ ifv ixL =>
        cases ixL with
        | @cons tv _ _ _ itv ixL =>
        cases ixL
        refine ⟨xa, _, rfl, .inl (.inl (s3 _ _ (sm _ _ ex))), rfl, _, _, rfl, _, _, rfl, rfl, rfl, yes_if ⟨_, rfl, ws, eD, small1000 (by omega), Kx.Same.own s3 hD _, ws ++ [tv], upd_same, ?_, by rw [List.length_append, wl]; rfl⟩⟩
        have e2 : (ps.map (·.2)).take (i + 1) = (ps.map (·.2)).take i ++ [p.2] := by
          rw [List.take_succ_eq_append_getElem (by rw [List.length_map]; exact hi), List.getElem_map, ep]
        rw [e2]
        exact (wL.append (.cons ((itv.same sm).same s3) .nil)).wr eD
      · rintro H3 ⟨s3, ws, eD, wL, wl⟩
        rw [al, ← List.length_map (f := (·.2)) (as := ps), List.take_length] at wL
        have eb3 := s3 _ _ (sm _ _ eb)
        refine ⟨_, rfl, b, rfl, ⟨_, SqL.of eb3⟩, fun D2 hD2 => ?_⟩
        have nDD : D ≠ D2 := ne_of_none eD hD2
        refine lc_list (K := K) (a := b) (xs := kvs) (fun i H4 => Same H3 H4 ∧ ∃ ws2, H4 D2 = some (.lst ws2) ∧ IsL H4 ws2 ((ks.map treeK).take i) ∧ ws2.length = i) ⟨same_upd hD2 _, [], upd_same, .nil, rfl⟩ (fun i H4 _ ⟨s4, _⟩ => SqL.of (s4 _ _ eb3)) ?_ ?_
        · rintro i x H4 hx ⟨s4, ws2, eD2, wL2, wl2⟩
          obtain ⟨k, hk, ik⟩ := hK.get hx
          obtain ⟨hi, ek⟩ := List.getElem?_eq_some_iff.mp hk
          obtain ⟨k2, ek2, _⟩ := hall i (ps[i]'(by omega)) k (by omega) (List.getElem?_eq_getElem _) hk
          subst ek2
          obtain ⟨xa, xvs, rfl, ex, ixL⟩ := Is.tup_inv ik
          cases ixL with
          | @cons fv _ _ _ ifv ixL =>
          cases ixL with
          | @cons tv _ _ _ itv ixL =>
          cases ixL
          refine ⟨xa, _, rfl, .inl (.inl (s4 _ _ (s3 _ _ (sm _ _ ex)))), rfl, _, _, rfl, _, _, rfl, rfl, rfl, yes_if ⟨_, rfl, ws2, eD2, small1000 (by omega), Kx.Same.own s4 hD2 _, ws2 ++ [tv], upd_same, ?_, by rw [List.length_append, wl2]; rfl⟩⟩
          have e2 : (ks.map treeK).take (i + 1) = (ks.map treeK).take i ++ [k2.2] := by
            rw [List.take_succ_eq_append_getElem (by rw [List.length_map]; exact hi), List.getElem_map, ek]
            rfl
          rw [e2]
          exact (wL2.append (.cons (((itv.same sm).same s3).same s4) .nil)).wr eD2
        · rintro H4 ⟨s4, ws2, eD2, wL2, wl2⟩
          rw [kl, ← List.length_map (f := treeK) (as := ks), List.take_length] at wL2
          have s34 := (sm.trans s3).trans s4
          have each : ∀ k ∈ ks, ∃ x, k = some x := fun k hk => by
            obtain ⟨i, hi, ei⟩ := List.getElem_of_mem hk
            obtain ⟨x, e, _⟩ := hall i (ps[i]'(by omega)) k (by omega) (List.getElem?_eq_getElem _) (by rw [List.getElem?_eq_getElem hi, ei])
            exact ⟨x, e⟩
          have tk : ∀ t ∈ ks.map treeK, form MK true t = true ∧ Gr t ∧ dep t ≤ 60 := fun t ht => by
            obtain ⟨k, hk, rfl⟩ := List.mem_map.mp ht
            obtain ⟨x, rfl⟩ := each k hk
            exact fk _ hk x rfl
          have tp : ∀ t ∈ ps.map (·.2), form MK true t = true ∧ dep t ≤ n := fun t ht => by
            obtain ⟨p, hp, rfl⟩ := List.mem_map.mp ht
            exact fp p hp
          have fa : ∀ l : List PV, (∀ t ∈ l, form MK true t = true) → formL MK true l = true := fun l h => by rw [formL_all]; exact List.all_eq_true.mpr h
          have ga : ∀ l : List PV, (∀ t ∈ l, Gr t) → GrL l := fun l => by
            induction l with
            | nil => exact fun _ => trivial
            | cons t r ih => exact fun h => ⟨h t (List.mem_cons_self ..), ih fun x hx => h x (List.mem_cons_of_mem _ hx)⟩
          refine ⟨D, D2, MK, ws, ws2, _, _, rfl, ⟨s4 _ _ eD, eD2⟩, wL.same s4, wL2, mk_ar, fa _ fun t ht => (tp t ht).1, fa _ fun t ht => (tk t ht).1, ga _ fun t ht => (tk t ht).2.1, by rw [List.length_map, List.length_map]; exact hl, fun t ht => (tp t ht).2, fun t ht => (tk t ht).2.2, hlc, fun h f H5 s5 hf hA => ?_, fun h H5 s5 => ?_⟩
          · exact q1 _ (by rw [eT, if_pos h]) f H5 (s34.trans s5) (s34.free hf) hA
          · exact q2 (by rw [eT, if_neg (by rw [h]; exact Bool.false_ne_true)]) H5 (s34.trans s5)
end
end Kx
namespace Kx
open PySem PySem.Spec PyProof.Rows L2
section
variable {P : Program} {w : World} {K : PySem.W.Frag} {mg : Str → Option Value} {base : Heap}
/-- the family and index that a constructor makes of the parts' kinds -/
noncomputable def madeK (c : Con) (ks : List (Option (Str × PV))) : Option (Str × PV) := (treesFor c.ps ks).map fun al => (c.fam, psub al c.ix)
def KindsG (ks : List (Option (Str × PV))) : Prop := ∀ k ∈ ks, ∀ x, k = some x → form MK true x.2 = true ∧ Gr x.2 ∧ dep x.2 ≤ 60
structure ConG (c : Con) : Prop where
  ps : ∀ p ∈ c.ps, form MK true p.2 = true ∧ dep p.2 ≤ 3
  len : c.ps.length ≤ 3
  ix : form MK true c.ix = true ∧ dep c.ix ≤ 3
  few : lcL (c.ps.map (·.2)) ≤ 100000
  fam : sok c.fam = true
  nms : ∀ z ∈ lv c.ix, ∃ p ∈ c.ps, z ∈ lv p.2
def spMade : Sp := fun vs H Q _ => ∃ (v : V) (b : Addr) (c : Con) (ks : List (Option (Str × PV))) (kvs : List V), vs = [v, .ref b] ∧ Is H v (conPV c) ∧ ConG c ∧ H b = some (.lst kvs) ∧ KindL H kvs ks ∧ c.ps.length = ks.length ∧ KindsG ks ∧
  ∀ u H', Same H H' → KindIs H' u (madeK c ks) → Q u H'
theorem ok_made_kind (T : Txt K mg) (G_trees_for : FnOk P w K mg base CX0 6 T.a_trees_for T.d_trees_for ["asked", "kinds"] (spTrees 3)) (G_put : FnOk P w K mg base CX0 5 T.a_put T.d_put ["term", "assignment"] (spPut 3)) : FnOk P w K mg base CX0 8 T.a_made_kind T.d_made_kind ["constructor", "kinds"] spMade := by
  refine T.F_made_kind.ok sc_made_kind (fun vs H Q E h => ?_) (fun cdv A outer s H vs Q E hr h => ?_)
  · obtain ⟨v, b, c, ks, kvs, rfl, _⟩ := h; rfl
  · obtain ⟨v, b, c, ks, kvs, rfl, hI, hG, eb, hK, hl, kG, q⟩ := h
    have hr_trees_for : Room 6 _ := hr.mono (by decide)
    have hr_put : Room 5 _ := hr.mono (by decide)
    refine ⟨_, (pss_cons (ps_asg (pv 0) (pg_tup rfl (pgs_cons (pg_name (i := 2) sc_made_kind.nd rfl (Or.inl rfl)) (pgs_cons (pg_name (i := 3) sc_made_kind.nd rfl (Or.inl rfl)) (pgs_cons (pg_name (i := 4) sc_made_kind.nd rfl (Or.inl rfl)) (pgs_cons (pg_name (i := 5) sc_made_kind.nd rfl (Or.inl rfl)) pgs_nil))))))
    (pss_cons (ps_set (i := 6) sc_made_kind.nd rfl (Or.inl rfl) (pe_call G_trees_for hr_trees_for rfl T.m_trees_for T.F_trees_for.kp T.b_trees_for .nil pass0 (pa_cons (pv 3) (pa_cons (pv 1) pa_nil))))
    (pss_one (ps_ret (pe_ifExp (pt_cmpR op_isN (pv 6) pe_non (nomark _)) pe_non (pe_tup (pa_cons (pv 4) (pa_cons (pe_call G_put hr_put rfl T.m_put T.F_put.kp T.b_put .nil pass0 (pa_cons (pv 5) (pa_cons (pv 6) pa_nil))) pa_nil)))))))), ?_⟩
    obtain ⟨ca, cvs, rfl, ec, cL⟩ := hI.tup_inv
    cases cL with
    | @cons wv _ _ _ iw cL =>
    cases cL with
    | @cons pv_ _ _ _ ip cL =>
    obtain ⟨pa, pvs, rfl, ep, pL⟩ := id ip.tup_inv
    cases cL with
    | @cons fv _ _ _ ifm cL =>
    cases ifm.str_inv
    cases cL with
    | @cons iv _ _ _ iix cL =>
    cases cL
    refine ⟨_, rfl, ca, _, rfl, .inl (.inl ec), rfl, _, _, rfl, _, _, rfl, _, _, rfl, _, _, rfl, rfl, ?_⟩
    refine ⟨_, rfl, _, rfl, pa, b, c.ps, ks, kvs, rfl, ip, eb, hK, hl, hG.len, hG.ps, kG, hG.few, fun al hal f H1 s1 hf hA => ?_, fun hal H1 s1 => ?_⟩
    · refine ⟨_, rfl, rfl, _, rfl, iteF ?_⟩
      refine ⟨_, rfl, _, rfl, _, rfl, f, MK, iv, c.ix, al, rfl, hA, iix.same s1, mk_ar, hG.ix.1, hG.ix.2, fun v' H2 s2 iv' => ⟨(by show 2 ≤ sizeLine; decide), fun p hp => ?_⟩⟩
      have s3 := same_upd hp (.tup [.str c.fam, v'])
      refine q _ _ ((s1.trans s2).trans s3) ?_
      rw [madeK, hal]
      exact .tup upd_same (.cons (.str _ hG.fam) (.cons (iv'.same s3) .nil))
    · refine ⟨_, rfl, rfl, _, rfl, iteT (q _ H1 s1 ?_)⟩
      rw [madeK, hal]
      rfl
end
end Kx
/-! What is found by fitting is made of parts of the trees, and tells all names; what putting keeps. -/
namespace Kx
open PySem PySem.Spec PyProof.Rows L2
/-- a property that goes over to the parts -/
def Down (P : PV → Prop) : Prop := ∀ w ts, P (.tup (.str w :: ts)) → ∀ t ∈ ts, P t
mutual
theorem fit_down {P : PV → Prop} (D : Down P) : ∀ (p t : PV) (f : AL), P t → (∀ kv ∈ f, P kv.2) → ∀ kv ∈ (fit f p t).2, P kv.2
  | .str z, t, f, ht, hf => by
    unfold fit
    cases h : Kx.get f z with
    | some u => exact hf
    | none =>
      intro kv hk
      rcases List.mem_append.mp hk with hk | hk
      · exact hf kv hk
      · rw [List.mem_singleton.mp hk]; exact ht
  | .tup (.str w :: ps), .tup (.str w' :: ts), f, ht, hf => by
    rw [fit_tups]
    split
    · exact fitL_down D ps ts f (D _ _ ht) hf
    · exact hf
  | .tup (.str w :: ps), .str _, f, _, hf => by simp only [fit]; exact hf
  | .tup (.str w :: ps), .oth, f, _, hf => by simp only [fit]; exact hf
  | .tup (.str w :: ps), .tup [], f, _, hf => by simp only [fit]; exact hf
  | .tup (.str w :: ps), .tup (.oth :: _), f, _, hf => by simp only [fit]; exact hf
  | .tup (.str w :: ps), .tup (.tup _ :: _), f, _, hf => by simp only [fit]; exact hf
  | .tup [], t, f, _, hf => by cases t <;> (simp only [fit]; exact hf)
  | .tup (.oth :: _), t, f, _, hf => by cases t <;> (simp only [fit]; exact hf)
  | .tup (.tup _ :: _), t, f, _, hf => by cases t <;> (simp only [fit]; exact hf)
  | .oth, t, f, _, hf => by cases t <;> (simp only [fit]; exact hf)
theorem fitL_down {P : PV → Prop} (D : Down P) : ∀ (ps ts : List PV) (f : AL), (∀ t ∈ ts, P t) → (∀ kv ∈ f, P kv.2) → ∀ kv ∈ (fitL f ps ts).2, P kv.2
  | p :: ps, t :: ts, f, ht, hf => by
    have a := fit_down D p t f (ht t (List.mem_cons_self ..)) hf
    rw [fitL_cons]
    split
    · exact fitL_down D ps ts _ (fun x hx => ht x (List.mem_cons_of_mem _ hx)) a
    · exact a
  | [], t, f, _, hf => by rw [fitL_nil]; exact hf
  | _ :: _, [], f, _, hf => by simp only [fitL]; exact hf
end
theorem Le.some {f g : AL} (h : Le f g) {z : Str} (n : get f z ≠ none) : get g z ≠ none := by
  cases e : get f z with
  | none => exact absurd e n
  | some u => rw [h z u e]; simp
mutual
/-- every name of a pattern that fits is told -/
theorem fit_names {mk : List (Str × Int)} : ∀ (p t : PV) (f : AL), form mk true p = true → form mk true t = true → (fit f p t).1 = true → ∀ z ∈ lv p, get (fit f p t).2 z ≠ none
  | .str y, t, f, _, _, h, z, hz => by
    simp only [lv, List.mem_singleton] at hz
    subst hz
    simp only [fit]
    cases e : get f z with
    | some u => simp [e]
    | none =>
      simp only
      rw [get_append e, if_pos rfl]
      simp
  | .oth, _, _, h, _, _, _, _ => by simp [form] at h
  | .tup [], _, _, h, _, _, _, _ => by simp [form] at h
  | .tup (.oth :: _), _, _, h, _, _, _, _ => by simp [form] at h
  | .tup (.tup _ :: _), _, _, h, _, _, _, _ => by simp [form] at h
  | .tup (.str w :: ps), .str _, f, _, _, h, _, _ => by simp [fit] at h
  | .tup (.str w :: ps), .oth, f, _, _, h, _, _ => by simp [fit] at h
  | .tup (.str w :: ps), .tup [], f, _, _, h, _, _ => by simp [fit] at h
  | .tup (.str w :: ps), .tup (.oth :: _), f, _, _, h, _, _ => by simp [fit] at h
  | .tup (.str w :: ps), .tup (.tup _ :: _), f, _, _, h, _, _ => by simp [fit] at h
  | .tup (.str w :: ps), .tup (.str w' :: ts), f, h1, h2, h, z, hz => by
    rw [fit_tups] at h ⊢
    by_cases e : w = w'
    · subst e
      rw [if_pos rfl] at h ⊢
      simp only [form, Bool.and_eq_true, beq_iff_eq] at h1 h2
      have hl : ps.length = ts.length := by
        have := Option.some.inj (h1.1.symm.trans h2.1)
        omega
      exact fitL_names ps ts f hl h1.2 h2.2 h z (by simpa only [lv] using hz)
    · rw [if_neg e] at h; cases h
theorem fitL_names {mk : List (Str × Int)} : ∀ (ps ts : List PV) (f : AL), ps.length = ts.length → formL mk true ps = true → formL mk true ts = true → (fitL f ps ts).1 = true → ∀ z ∈ lvL ps, get (fitL f ps ts).2 z ≠ none
  | [], _, _, _, _, _, _, z, hz => by simp [lvL] at hz
  | p :: ps, [], _, hl, _, _, _, _, _ => by simp at hl
  | p :: ps, t :: ts, f, hl, h1, h2, h, z, hz => by
    rw [fitL_cons] at h ⊢
    simp only [formL, Bool.and_eq_true] at h1 h2
    by_cases e : (fit f p t).1 = true
    · rw [if_pos e] at h ⊢
      simp only [lvL] at hz
      rcases List.mem_append.mp hz with hz | hz
      · exact (fitL_le ps ts _).some (fit_names p t f h1.1 h2.1 e z hz)
      · exact fitL_names ps ts _ (by simpa using hl) h1.2 h2.2 h z hz
    · rw [if_neg e] at h; cases h
end
/-- a tree over the makers of a depth -/
def TreeG (mk : List (Str × Int)) (d : Nat) (t : PV) : Prop := form mk true t = true ∧ Gr t ∧ dep t ≤ d
theorem TreeG.down {mk : List (Str × Int)} {d : Nat} : Down (TreeG mk d) := fun w ts h t ht => by
  obtain ⟨h1, h2, h3⟩ := h
  simp only [form, Bool.and_eq_true] at h1
  have := depL_mem ht
  simp only [dep, depL] at h3
  exact ⟨formL_mem h1.2 t ht, mem_GrL h2 t ht, by omega⟩
mutual
/-- putting trees for all names gives a tree -/
theorem psub_tree {mk : List (Str × Int)} {al : AL} {d : Nat} (h : ∀ kv ∈ al, TreeG mk d kv.2) : ∀ t : PV, form mk true t = true → (∀ z ∈ lv t, get al z ≠ none) → TreeG mk (dep t + d) (psub al t)
  | .str z, _, hz => by
    cases e : get al z with
    | none => exact absurd e (hz z (by simp [lv]))
    | some u =>
      simp only [psub, e, Option.getD_some]
      unfold Kx.get at e
      cases q : al.find? (fun kv => kv.1 == z) with
      | none => rw [q] at e; cases e
      | some kv =>
        rw [q] at e
        have e2 : kv.2 = u := Option.some.inj e
        obtain ⟨a, b, c⟩ := h kv (List.mem_of_find?_eq_some q)
        rw [e2] at a b c
        exact ⟨a, b, by omega⟩
  | .oth, hf, _ => by simp [form] at hf
  | .tup [], hf, _ => by simp [form] at hf
  | .tup (.oth :: _), hf, _ => by simp [form] at hf
  | .tup (.tup _ :: _), hf, _ => by simp [form] at hf
  | .tup (.str w :: r), hf, hz => by
    simp only [form, Bool.and_eq_true, beq_iff_eq] at hf
    obtain ⟨a, b, c⟩ := psubL_tree h r hf.2 (by simpa only [lv] using hz)
    have l : (psubL al r).length = r.length := by rw [psubL_map, List.length_map]
    refine ⟨?_, ?_, ?_⟩
    · simp only [psub, form, Bool.and_eq_true, beq_iff_eq]
      exact ⟨by rw [l]; exact hf.1, a⟩
    · simp only [psub]; exact b
    · simp only [psub, dep, depL]
      omega
theorem psubL_tree {mk : List (Str × Int)} {al : AL} {d : Nat} (h : ∀ kv ∈ al, TreeG mk d kv.2) : ∀ l : List PV, formL mk true l = true → (∀ z ∈ lvL l, get al z ≠ none) → formL mk true (psubL al l) = true ∧ GrL (psubL al l) ∧ depL (psubL al l) ≤ depL l + d
  | [], _, _ => ⟨rfl, trivial, by simp [psubL, depL]⟩
  | t :: r, hf, hz => by
    simp only [formL, Bool.and_eq_true] at hf
    simp only [lvL] at hz
    obtain ⟨a1, b1, c1⟩ := psub_tree h t hf.1 fun z q => hz z (List.mem_append_left _ q)
    obtain ⟨a2, b2, c2⟩ := psubL_tree h r hf.2 fun z q => hz z (List.mem_append_right _ q)
    refine ⟨?_, ⟨b1, b2⟩, ?_⟩
    · simp only [psubL, formL, Bool.and_eq_true]; exact ⟨a1, a2⟩
    · simp only [psubL, depL]; omega
end
/-! ### the index of a value -/
mutual
/-- the family and index of a value, if it has one -/
noncomputable def idxOf (cs : List Con) : PV → Option (Str × PV)
  | .tup (.str w :: ts) => match cs.find? (fun c => c.w == w) with
    | some c => madeK c (idxL cs ts)
    | none => none
  | _ => none
noncomputable def idxL (cs : List Con) : List PV → List (Option (Str × PV))
  | [] => []
  | t :: r => idxOf cs t :: idxL cs r
end
theorem idxL_map (cs : List Con) : ∀ l : List PV, idxL cs l = l.map (idxOf cs)
  | [] => rfl
  | t :: r => by simp only [idxL, List.map_cons, idxL_map cs r]
/-- a raw value: each word is a constructor's, with as many parts -/
def RawV (cs : List Con) (t : PV) : Prop := form (cnts cs) false t = true
theorem goodK_some : ∀ {ps : List (Str × PV)} {ks : List (Option (Str × PV))}, ps.length = ks.length → goodK ps ks = true → ∀ k ∈ ks, ∃ y, k = some y
  | [], [], _, _, k, h => by cases h
  | p :: ps, none :: ks, _, g, k, h => by simp [goodK] at g
  | p :: ps, some y0 :: ks, hl, g, k, h => by
    simp only [goodK, Bool.and_eq_true] at g
    rcases List.mem_cons.mp h with q | q
    · exact ⟨y0, q⟩
    · exact goodK_some (by simpa using hl) g.2 k q
theorem made_tree {c : Con} {ks : List (Option (Str × PV))} {d : Nat} {x : Str × PV} (G : ConG c) (hl : c.ps.length = ks.length) (hk : ∀ k ∈ ks, ∀ y, k = some y → TreeG MK d y.2) (e : madeK c ks = some x) : x.1 = c.fam ∧ TreeG MK (dep c.ix + d) x.2 := by
  unfold madeK at e
  obtain ⟨al, ha, rfl⟩ := Option.map_eq_some_iff.mp e
  refine ⟨rfl, ?_⟩
  unfold treesFor at ha
  split at ha
  · rename_i good
    split at ha
    · rename_i fits
      cases ha
      have some_ : ∀ t ∈ ks.map treeK, TreeG MK d t := by
        intro t ht
        obtain ⟨k, hkm, rfl⟩ := List.mem_map.mp ht
        have ex : ∃ y, k = some y := goodK_some hl good k hkm
        obtain ⟨y, rfl⟩ := ex
        exact hk _ hkm y rfl
      have dn := fitL_down TreeG.down (c.ps.map (·.2)) (ks.map treeK) [] some_ (fun kv h => by cases h)
      have fa : ∀ l : List PV, (∀ t ∈ l, form MK true t = true) → formL MK true l = true := fun l h => by rw [formL_all]; exact List.all_eq_true.mpr h
      have names := fitL_names (mk := MK) (c.ps.map (·.2)) (ks.map treeK) [] (by rw [List.length_map, List.length_map]; exact hl) (fa _ fun t ht => by obtain ⟨p, hp, rfl⟩ := List.mem_map.mp ht; exact (G.ps p hp).1) (fa _ fun t ht => (some_ t ht).1) fits
      refine psub_tree dn c.ix G.ix.1 fun z hz => ?_
      obtain ⟨p, hp, hz2⟩ := G.nms z hz
      exact names z (lvL_mem (List.mem_map.mpr ⟨p, hp, rfl⟩) hz2)
    · cases ha
  · cases ha
theorem look_cnts (w : Str) : ∀ cs : List Con, look (cnts cs) w = (cs.find? fun c => c.w == w).map fun c => (c.ps.length : Int)
  | [] => rfl
  | c :: r => by
    have ih := look_cnts w r
    unfold look at ih ⊢
    by_cases e : c.w = w
    · simp [cnts, e]
    · have ne : (c.w == w) = false := beq_eq_false_iff_ne.mpr e
      simp only [cnts, List.map_cons, List.find?_cons, ne]
      exact ih
mutual
/-- the index of a raw value is a tree, at most three times as deep -/
theorem idx_tree {cs : List Con} (G : ∀ c ∈ cs, ConG c) : ∀ t : PV, RawV cs t → ∀ x, idxOf cs t = some x → TreeG MK (3 * dep t) x.2
  | .str _, _, x, e => by simp [idxOf] at e
  | .oth, _, x, e => by simp [idxOf] at e
  | .tup [], _, x, e => by simp [idxOf] at e
  | .tup (.oth :: _), _, x, e => by simp [idxOf] at e
  | .tup (.tup _ :: _), _, x, e => by simp [idxOf] at e
  | .tup (.str w :: ts), h, x, e => by
    unfold RawV at h
    simp only [form, Bool.and_eq_true, beq_iff_eq] at h
    simp only [idxOf] at e
    have lk := look_cnts w cs
    cases q : cs.find? (fun c => c.w == w) with
    | none => rw [q] at e; cases e
    | some c =>
      rw [q] at e lk
      have hm := List.mem_of_find?_eq_some q
      have hl : c.ps.length = ts.length := by
        rw [lk] at h
        have e1 : (c.ps.length : Int) = (ts.length : Int) := Option.some.inj h.1
        omega
      have parts := idxL_tree G ts (formL_mem h.2)
      obtain ⟨_, a, b, d⟩ := made_tree (d := 3 * depL ts) (G c hm) (by rw [idxL_map, List.length_map]; exact hl) (fun k hk y ey => parts k hk y ey) e
      have := (G c hm).ix.2
      refine ⟨a, b, Nat.le_trans d ?_⟩
      simp only [dep, depL]
      omega
theorem idxL_tree {cs : List Con} (G : ∀ c ∈ cs, ConG c) : ∀ l : List PV, (∀ t ∈ l, RawV cs t) → ∀ k ∈ idxL cs l, ∀ y, k = some y → TreeG MK (3 * depL l) y.2
  | [], _, k, hk, _, _ => by simp [idxL] at hk
  | t :: r, h, k, hk, y, ey => by
    simp only [idxL] at hk
    rcases List.mem_cons.mp hk with q | q
    · subst ey
      obtain ⟨a, b, c⟩ := idx_tree G t (h t (List.mem_cons_self ..)) y q.symm
      refine ⟨a, b, ?_⟩
      simp only [depL]
      omega
    · obtain ⟨a, b, c⟩ := idxL_tree G r (fun x hx => h x (List.mem_cons_of_mem _ hx)) k q y ey
      refine ⟨a, b, ?_⟩
      simp only [depL]
      omega
end
end Kx
namespace Kx
open PySem PySem.Spec PyProof.Rows L2
section
variable {P : Program} {w : World} {K : PySem.W.Frag} {mg : Str → Option Value} {base : Heap}
/-! ### index_of -/
mutual
theorem Is.keep {H H' : Hp} (x : ∀ b o, H b = some o → (∀ u, o ≠ KLm.PinO b u) → H' b = some o) : ∀ {v : V} {t : PV}, Is H v t → Is H' v t
  | _, _, .str z k => .str z k
  | _, _, .non => .non
  | _, _, .bl b => .bl b
  | _, _, .int i => .int i
  | _, _, .lst e => .lst (e.elim fun xs e => ⟨xs, x _ _ e fun _ z => KLm.pin_lst z.symm⟩)
  | _, _, .dict e => .dict (x _ _ e fun _ z => KLm.pin_dK z.symm)
  | _, _, .tup e h => .tup (x _ _ e fun _ z => KLm.pin_tup z.symm) (IsL.keep x h)
theorem IsL.keep {H H' : Hp} (x : ∀ b o, H b = some o → (∀ u, o ≠ KLm.PinO b u) → H' b = some o) : ∀ {v : List V} {t : List PV}, IsL H v t → IsL H' v t
  | _, _, .nil => .nil
  | _, _, .cons h r => .cons (Is.keep x h) (IsL.keep x r)
end
theorem KindIs.keep {H H' : Hp} (x : ∀ b o, H b = some o → (∀ u, o ≠ KLm.PinO b u) → H' b = some o) {v : V} {k : Option (Str × PV)} (h : KindIs H v k) : KindIs H' v k := by
  cases k with
  | none => exact h
  | some k => exact Is.keep x h
theorem KindL.keep {H H' : Hp} (x : ∀ b o, H b = some o → (∀ u, o ≠ KLm.PinO b u) → H' b = some o) : ∀ {vs : List V} {ks : List (Option (Str × PV))}, KindL H vs ks → KindL H' vs ks
  | _, _, .nil => .nil
  | _, _, .cons h t => .cons (h.keep x) (t.keep x)
mutual
theorem Is.tu {H H' : Hp} (x : Tu H H') : ∀ {v : V} {t : PV}, Tm t → Is H v t → Is H' v t
  | _, _, _, .str z k => .str z k
  | _, _, h, .non => absurd h id
  | _, _, h, .bl _ => absurd h id
  | _, _, h, .int _ => absurd h id
  | _, _, h, .lst _ => absurd h id
  | _, _, h, .dict _ => absurd h id
  | _, .tup [], h, .tup e i => absurd h id
  | _, .tup (.oth :: _), h, .tup e i => absurd h id
  | _, .tup (.tup _ :: _), h, .tup e i => absurd h id
  | _, .tup (.str w :: r), h, .tup e (.cons (.str _ k) i) => .tup (x _ _ e (fun _ z => by cases z) (fun _ z => by cases z)) (.cons (.str w k) (IsL.tu x h i))
theorem IsL.tu {H H' : Hp} (x : Tu H H') : ∀ {v : List V} {t : List PV}, TmL t → IsL H v t → IsL H' v t
  | _, _, _, .nil => .nil
  | _, _, h, .cons a r => .cons (Is.tu x h.1 a) (IsL.tu x h.2 r)
end
/-- the result for index_of -/
def RIdx (cs : List Con) : ResT := fun H r ts => KindIs H r (idxOf cs (.tup ts)) ∧ ∀ x, idxOf cs (.tup ts) = some x → Tm x.2
theorem RIdx.st (cs : List Con) : Stable (RIdx cs) := fun H H' v ts x ⟨h, t⟩ => ⟨by
  cases e : idxOf cs (.tup ts) with
  | none => rw [e] at h; exact h
  | some k =>
    rw [e] at h
    exact Is.tu x (t := .tup [.str k.1, k.2]) ⟨t k e, trivial⟩ h, t⟩
theorem RIdx.list {cs : List Con} {H : Hp} : ∀ {rs : List V} {ts : List PV}, ResL (RIdx cs) H rs ts → KindL H rs (idxL cs ts)
  | _, _, .nil => .nil
  | _, _, .cons h t => .cons h.1 (RIdx.list t)
mutual
theorem lc_le {mk : List (Str × Int)} (ar : Ar mk) : ∀ t : PV, form mk true t = true → lc t ≤ 2 ^ dep t
  | .str _, _ => by simp [lc, dep]
  | .oth, _ => by simp [lc]
  | .tup [], _ => by simp [lc]
  | .tup (.oth :: _), h => by simp [form] at h
  | .tup (.tup _ :: _), h => by simp [form] at h
  | .tup (.str w :: r), h => by
    simp only [form, Bool.and_eq_true, beq_iff_eq] at h
    have a := ar w _ h.1
    have b := lcL_le ar r h.2
    simp only [lc]
    have d : dep (.tup (.str w :: r)) = 1 + max 1 (depL r) := dep_cons w r
    rw [d]
    have e : r.length ≤ 2 := by omega
    calc lcL r ≤ r.length * 2 ^ depL r := b
      _ ≤ 2 * 2 ^ depL r := Nat.mul_le_mul_right _ e
      _ ≤ 2 * 2 ^ (max 1 (depL r)) := Nat.mul_le_mul_left _ (Nat.pow_le_pow_right (by decide) (Nat.le_max_right ..))
      _ = 2 ^ (1 + max 1 (depL r)) := by rw [Nat.pow_add]
theorem lcL_le {mk : List (Str × Int)} (ar : Ar mk) : ∀ l : List PV, formL mk true l = true → lcL l ≤ l.length * 2 ^ depL l
  | [], _ => by simp [lcL]
  | t :: r, h => by
    simp only [formL, Bool.and_eq_true] at h
    have a := lc_le ar t h.1
    have b := lcL_le ar r h.2
    simp only [lcL, List.length_cons, depL]
    have c : 2 ^ dep t ≤ 2 ^ (max (dep t) (depL r)) := Nat.pow_le_pow_right (by decide) (Nat.le_max_left ..)
    have d : r.length * 2 ^ depL r ≤ r.length * 2 ^ (max (dep t) (depL r)) := Nat.mul_le_mul_left _ (Nat.pow_le_pow_right (by decide) (Nat.le_max_right ..))
    rw [Nat.add_mul, Nat.one_mul]
    omega
end
theorem con_of {F : List Str} {cs : List Con} (G : TabG F cs) : ∀ c ∈ cs, ConG c := fun c hc => by
  obtain ⟨⟨p1, p2, p3, p4⟩, p5⟩ := G.cons.row c hc
  have fa : formL MK true (c.ps.map (·.2)) = true := by
    rw [formL_all]
    exact List.all_eq_true.mpr fun t ht => by obtain ⟨p, hp, rfl⟩ := List.mem_map.mp ht; exact (p1 p hp).2.1
  refine ⟨fun p hp => ⟨(p1 p hp).2.1, (p1 p hp).2.2⟩, by have : c.ps.length ≤ 2 := p2; omega, p3, ?_, G.ok _ p5, p4⟩
  have a := lcL_le mk_ar _ fa
  have d : depL (c.ps.map (·.2)) ≤ 3 := depL_le fun t ht => by obtain ⟨p, hp, rfl⟩ := List.mem_map.mp ht; exact (p1 p hp).2.2
  have l : (c.ps.map (·.2)).length ≤ 2 := by rw [List.length_map]; exact p2
  calc lcL (c.ps.map (·.2)) ≤ _ := a
    _ ≤ 2 * 2 ^ 3 := Nat.mul_le_mul l (Nat.pow_le_pow_right (by decide) d)
    _ ≤ 100000 := by decide
mutual
theorem raw_rv {cs : List Con} (h2 : ∀ c ∈ cs, c.ps.length ≤ 3) : ∀ t : PV, RawV cs t → Rv (cs.map (·.w)) t
  | .str _, h => by simp [RawV, form] at h
  | .oth, h => by simp [RawV, form] at h
  | .tup [], h => by simp [RawV, form] at h
  | .tup (.oth :: _), h => by simp [RawV, form] at h
  | .tup (.tup _ :: _), h => by simp [RawV, form] at h
  | .tup (.str w :: r), h => by
    unfold RawV at h
    simp only [form, Bool.and_eq_true, beq_iff_eq] at h
    have lk := look_cnts w cs
    rw [h.1] at lk
    cases q : cs.find? (fun c => c.w == w) with
    | none => rw [q] at lk; cases lk
    | some c =>
      rw [q] at lk
      have hm := List.mem_of_find?_eq_some q
      have hw : c.w = w := by simpa using List.find?_some q
      have e : (r.length : Int) = (c.ps.length : Int) := Option.some.inj lk
      refine ⟨List.mem_map.mpr ⟨c, hm, hw⟩, by have := h2 c hm; omega, rawL_rv h2 r h.2⟩
theorem rawL_rv {cs : List Con} (h2 : ∀ c ∈ cs, c.ps.length ≤ 3) : ∀ l : List PV, formL (cnts cs) false l = true → RvL (cs.map (·.w)) l
  | [], _ => trivial
  | t :: r, h => by
    simp only [formL, Bool.and_eq_true] at h
    exact ⟨raw_rv h2 t h.1, rawL_rv h2 r h.2⟩
end
theorem raw_con {cs : List Con} {w : Str} {ts : List PV} (h : RawV cs (.tup (.str w :: ts))) : ∃ c, cs.find? (fun c => c.w == w) = some c ∧ c ∈ cs ∧ c.ps.length = ts.length ∧ ∀ t ∈ ts, RawV cs t := by
  unfold RawV at h
  simp only [form, Bool.and_eq_true, beq_iff_eq] at h
  have lk := look_cnts w cs
  rw [h.1] at lk
  cases q : cs.find? (fun c => c.w == w) with
  | none => rw [q] at lk; cases lk
  | some c =>
    rw [q] at lk
    have e : (ts.length : Int) = (c.ps.length : Int) := Option.some.inj lk
    exact ⟨c, rfl, List.mem_of_find?_eq_some q, by omega, formL_mem h.2⟩
def spLamIdx (D : Addr) (kvs : List (Key × V)) : Sp := fun vs H Q _ => ∃ (w : Str) (l : Addr) (c : Con) (v : V) (ks : List (Option (Str × PV))) (rs : List V), vs = [.str w, .ref l] ∧ H D = some (.dK kvs) ∧ valV kvs (Sum.inr w) = some v ∧ Is H v (conPV c) ∧ ConG c ∧ H l = some (.lst rs) ∧ KindL H rs ks ∧
  c.ps.length = ks.length ∧ KindsG ks ∧ ∀ u H', Same H H' → KindIs H' u (madeK c ks) → Q u H'
def spIndex (TT : List (Addr × Str)) (n : Nat) : Sp := fun vs H Q _ => ∃ (v u : V) (mk : List PV) (F : List Str) (cs : List Con) (t : List PV), vs = [v, u] ∧ LamX.Tabs TT H ∧ Is H v (tabPV mk F cs) ∧ TabG F cs ∧ Is H u (.tup t) ∧ RawV cs (.tup t) ∧ dep (.tup t) ≤ n ∧ dep (.tup t) ≤ 20 ∧
  ∀ r H', LamX.ExtN H H' → LamX.Tabs TT H' → KindIs H' r (idxOf cs (.tup t)) → Q r H'
theorem ok_index_of {n k : Nat} {c0 P0 : Addr} {TT : List (Addr × Str)} (T : Txt K mg) (FC : FunC K "index_of" "index_of" s_index_of T.a_index_of T.d_index_of c0) (hTB : LamX.TabB base mg c0 P0) (hin : (P0, lamq "index_of") ∈ TT) (hun : ∀ p ∈ TT, p.1 = P0 → p.2 = lamq "index_of")
    (G_made_kind : FnOk P w K mg base CX0 8 T.a_made_kind T.d_made_kind ["constructor", "kinds"] spMade)
    (G_folded : FnOk P w K mg base CX0 (k+1) T.a_folded T.d_folded ["tree", "reckon"] (spFolded P w K mg base 9 n)) : FnOk P w K mg base CX0 (k+2) T.a_index_of T.d_index_of ["table", "value"] (spIndex TT n) := by
  refine FC.ok sc_index_of (fun vs H Q E h => ?_) (fun A outer s H vs Q E hr h => ?_)
  · obtain ⟨v, u, mk, F, cs, t, rfl, _⟩ := h; rfl
  · obtain ⟨v, u, mk, F, cs, t, rfl, hT, hI, G, hu0, hraw, hn, h20, q⟩ := h
    have hr_folded := hr
    have hu := hu_of hr
    refine ⟨_, (pss_cons (ps_set (i := 2) sc_index_of.nd rfl (Or.inr rfl) (pe_dc (own := [("constructor", 3)]) (g := gName 3) (tt := tYes) rfl sc_index_of.nd (pi_tup (pe_ix ix_tup (pv 0) pe_int (fun _ _ => rfl))) (blkOk_by (own := [("constructor", 3)]) (N := ["table", "value", "constructors", "constructor", "word", "kinds"]) (sc := defScope s_index_of) (by decide +kernel)) (fun _ _ _ _ _ => pg_name (i := 3) sc_index_of.nd rfl (Or.inl rfl)) (fun _ _ _ _ _ => pts_nil) (fun _ _ _ _ _ => (pe_ix (ixTK (K := K)) (pv 3) pe_int (fun _ _ => rfl))) (fun _ _ _ _ _ => (pv 3))))
    (pss_one (ps_ret (KLm.pe_hand (T := TT) (fr := ["constructors"]) (js := [2]) G_folded hr_folded rfl T.m_folded T.F_folded.kp T.b_folded hTB rfl hin hun rfl (by show KLm.capB (defScope s_index_of) _ _ = true; decide +kernel) rfl (fun _ => rfl) (pv 1))))), ?_⟩
    obtain ⟨a, vs, rfl, ea, hL⟩ := hI.tup_inv
    have l3 : 3 < vs.length := by rw [hL.len]; exact Nat.lt_of_lt_of_le (by decide : 3 < 4) (Nat.le_refl 4)
    have h3 : vs[3]? = some (vs[3]'l3) := List.getElem?_eq_getElem _
    obtain ⟨y, ey, iy⟩ := hL.get h3
    generalize vs[3]'l3 = ct at h3 iy
    have ey2 : y = .tup (cs.map conPV) := (Option.some.inj ey).symm
    subst ey2
    obtain ⟨ca, cvs, rfl, ec, icL⟩ := iy.tup_inv
    have clen := icL.len
    rw [List.length_map] at clen
    have len12 := G.len.2
    have CG := con_of G
    refine ⟨_, rfl, a, _, _, _, rfl, rfl, .inl (.inl ea), atI_nat (j := 3) h3, ca, rfl, ⟨_, .inl (.inl ec)⟩, fun D hD => ?_⟩
    refine dc_tup (K := K) (a := ca) (xs := cvs) (fun i H2 => ∃ kvs : List (Key × V), Same H H2 ∧ H2 D = some (.dK kvs) ∧ kvs.length ≤ i ∧ ∀ (j : Nat) (c : Con), j < i → cs[j]? = some c → ∃ x, valV kvs (Sum.inr c.w) = some x ∧ Is H x (conPV c)) ?_ ?_ ?_ ?_
    · exact ⟨[], same_upd hD _, upd_same, Nat.le_refl _, fun j c h => by omega⟩
    · exact fun i H2 _ ⟨_, sm, _⟩ => .inl (.inl (sm _ _ ec))
    · rintro i x H2 hx ⟨kvs, sm, eD, kl, all⟩
      obtain ⟨y, ey, iy⟩ := icL.get hx
      rw [List.getElem?_map] at ey
      have hi : i < cs.length := by rw [← clen]; exact (List.getElem?_eq_some_iff.mp hx).1
      rw [List.getElem?_eq_getElem hi] at ey
      cases (Option.some.inj ey)
      obtain ⟨xa, xvs, rfl, ex, ixL⟩ := id iy.tup_inv
      cases ixL with
      | @cons wv _ _ _ iw ixL =>
      cases iw.str_inv
      refine ⟨rfl, yes_if ⟨_, rfl, xa, _, _, _, rfl, rfl, .inl (.inl (sm _ _ ex)), atI_nat (j := 0) rfl, _, rfl, kvs, Sum.inr cs[i].w, rfl, eD, small1000 (by omega), ?_⟩⟩
      refine ⟨putK kvs (Sum.inr cs[i].w) (.ref xa), Kx.Same.own sm hD _, upd_same, ?_, fun j c hj hc => ?_⟩
      · unfold putK
        split
        · rw [List.length_map]; omega
        · rw [List.length_append]; simp only [List.length_cons, List.length_nil]; omega
      · by_cases e : j = i
        · subst e
          rw [List.getElem?_eq_getElem hi] at hc
          cases hc
          exact ⟨.ref xa, by rw [valV_put, if_pos rfl], iy⟩
        · obtain ⟨z, hz, iz⟩ := all j c (by omega) hc
          have jl := (List.getElem?_eq_some_iff.mp hc).1
          have ne : (Sum.inr c.w : Key) ≠ Sum.inr cs[i].w := fun q => by
            have q2 : c.w = cs[i].w := Sum.inr.inj q
            rw [G.cons.word j c hc, G.cons.word i _ (List.getElem?_eq_getElem hi)] at q2
            exact e (kw_inj _ (by omega) _ (by omega) q2)
          exact ⟨z, by rw [valV_put, if_neg ne]; exact hz, iz⟩
    · rintro H2 ⟨kvs, sm, eD, kl, all⟩
      refine ⟨_, rfl, hT.ext sm, [.ref D], rfl, fun f c' pm ctv caps H3 H4 x1 T3 x2 f1 C cfree at4 => ?_⟩
      have x0 := LamX.ExtN.of sm
      have hId : LamX.ExtN H H4 := fun b o e n => x2 _ _ (x1 _ _ (x0 _ _ e n) n)
      have eD4 : H4 D = some (.dK kvs) := x2 _ _ (x1 _ _ eD fun _ z => by cases z)
      have iu4 : Is H4 u (.tup t) := hu0.extN hId
      have con4 : ∀ (c : Con), c ∈ cs → ∃ x, valV kvs (Sum.inr c.w) = some x ∧ Is H4 x (conPV c) := fun c hc => by
        obtain ⟨j, hj, ej⟩ := List.getElem_of_mem hc
        obtain ⟨x, e1, e2⟩ := all j c (by omega) (by rw [List.getElem?_eq_getElem hj, ej])
        exact ⟨x, e1, e2.extN hId⟩
      have le3 : ∀ c ∈ cs, c.ps.length ≤ 3 := fun c hc => (CG c hc).len
      refine ⟨u, t, f, cs.map (·.w), 20, RawV cs, RIdx cs, _, spLamIdx D kvs, rfl, ?_, ⟨RIdx.st cs, fun H H' t p => p.on t, by rw [List.length_map]; omega, fun w ts h => ?_, fun w0 ts l rs H5 Q E hg hv h20 s5 p el hrs q => ?_⟩, hraw, at4, iu4, raw_rv le3 _ hraw, hn, by omega, h20, fun r H5 s5 hR => ⟨at4.on (Tu.of s5), fun H6 h6 => ?_⟩⟩
      · refine KLm.lam_ok (k := 8) (N := ["word", "kinds", "constructors"]) (ps := ["word", "kinds"]) (fr := ["constructors"]) (ws := [.ref D]) (sp := spLamIdx D kvs) (NdefX.nscope_by (by decide +kernel)) (fun us hl => match us, hl with | [_, _], _ => rfl) C
          (fun vs H Q E ⟨_, _, _, _, _, _, e, _⟩ => by rw [e]; rfl) fun A outer s H7 vs Q E hr p hsp => ?_
        obtain ⟨w0, l, c, x, ks, rs, rfl, eD7, ex, ix, cg, el, hK, hl, kG, q⟩ := hsp
        have hu := hu_of hr
        have hid : ∀ b o, H7 b = some o → (∀ u, o ≠ KLm.PinO b u) → KLm.hid caps H7 b = some o := fun b o e n => KLm.hid_see p.cel e n
        have dget : DGet (KLm.hid caps H7) D (.str w0) (some x) := ex ▸ DGet.k (k := Sum.inr w0) (hid _ _ eD7 fun _ z => KLm.pin_dK z.symm)
        refine ⟨_, pe_call G_made_kind hr rfl T.m_made_kind T.F_made_kind.kp T.b_made_kind .nil pass0 (pa_cons (pe_dget hu (pv 2) (pv 0) (fun _ _ => rfl)) (pa_cons (pv 1) pa_nil)), ?_⟩
        refine ⟨_, rfl, _, rfl, D, x, rfl, dget, _, rfl, x, l, c, ks, rs, rfl, ix.keep hid, cg, hid _ _ el fun _ z => KLm.pin_lst z.symm, hK.keep hid, hl, kG, fun r H8 s8 hk out => ?_⟩
        have back : ∀ b o, H8 b = some o → KLm.unh caps H7 H8 b = some o := fun b o e => by rw [KLm.unh_out fun z => by rw [out b z] at e; cases e]; exact e
        refine q r _ (fun b o e => ?_) (hk.same back)
        by_cases hb : b ∈ caps.map (·.1)
        · rw [KLm.unh_in hb]; exact e
        · rw [KLm.unh_out hb]; exact s8 _ _ (by rw [KLm.hid_out hb]; exact e)
      · obtain ⟨_, _, _, _, e⟩ := raw_con h
        exact e
      · obtain ⟨c, e1, e2, e3, e4⟩ := raw_con hg
        obtain ⟨x, ex, ix⟩ := con4 c e2
        have cw : c.w = w0 := by simpa using List.find?_some e1
        rw [cw] at ex
        have ei : idxOf cs (.tup (.str w0 :: ts)) = madeK c (idxL cs ts) := by simp only [idxOf, e1]
        have hd : dep (.tup (.str w0 :: ts)) = 1 + max 1 (depL ts) := dep_cons _ _
        refine ⟨w0, l, c, x, idxL cs ts, rs, rfl, s5 _ _ eD4, ex, ix.same s5, CG c e2, el, RIdx.list hrs, by rw [idxL_map, List.length_map]; exact e3, fun k hk y ey => ?_, fun r H6 s6 hk => q r H6 s6 ⟨by rw [ei]; exact hk, fun y ey => ?_⟩⟩
        · obtain ⟨a1, a2, a3⟩ := idxL_tree CG ts e4 k hk y ey
          exact ⟨a1, a2, by omega⟩
        · obtain ⟨a1, a2, a3⟩ := idx_tree CG _ hg y ey
          exact gr_tm a2
      · obtain ⟨y1, y2⟩ := KLm.ext_back x1 x2 s5 h6
        have at5 := at4.on (Tu.of s5)
        refine q r H6 (x0.trans y1) (T3.ext y2) (hR.1.keep fun b o e n => ?_)
        rcases h6 b with z | ⟨_, _, z | z⟩
        · rw [z]; exact e
        · rw [z, at5.fn] at e
          exact absurd (Option.some.inj e).symm (by rw [z] at n; exact n _)
        · obtain ⟨u2, _, e2⟩ := at5.cel.get z
          rw [e] at e2
          exact absurd (Option.some.inj e2) (n _)
end
end Kx
namespace Kx
open PySem PySem.Spec PyProof.Rows L2
section
variable {P : Program} {w : World} {K : PySem.W.Frag} {mg : Str → Option Value} {base : Heap}
/-! ### demanded -/
theorem tabs_wr {TT : List (Addr × Str)} {H : Hp} {l : Addr} {xs ys : List V} (t : LamX.Tabs TT H) (e : H l = some (.lst xs)) : LamX.Tabs TT (upd H l (.lst ys)) := fun p hp => by
  obtain ⟨ps, h1, h2, h3⟩ := t p hp
  refine ⟨ps, by rw [upd_ne fun z => by rw [z, e] at h1; cases h1]; exact h1, h2, fun pos cv hc => ?_⟩
  obtain ⟨c, e1, e2⟩ := h3 pos cv hc
  exact ⟨c, e1, by rw [upd_ne fun z => by rw [z, e] at e2; unfold LamX.CodeO at e2; cases e2]; exact e2⟩
/-- all but the tables stands, and these are told further -/
structure Sx (TT : List (Addr × Str)) (H H' : Hp) : Prop where
  x : LamX.ExtN H H'
  t : LamX.Tabs TT H → LamX.Tabs TT H'
section
variable {TT : List (Addr × Str)} {H H1 H2 : Hp}
theorem Sx.refl (TT : List (Addr × Str)) (H : Hp) : Sx TT H H := ⟨.refl H, id⟩
theorem Sx.trans (a : Sx TT H H1) (b : Sx TT H1 H2) : Sx TT H H2 := ⟨a.x.trans b.x, fun t => b.t (a.t t)⟩
theorem Sx.of (s : Same H H1) : Sx TT H H1 := ⟨.of s, fun t => t.ext s⟩
theorem Sx.lst {l : Addr} {xs : List V} (s : Sx TT H H1) (n : H l = none) (e : H1 l = some (.lst xs)) (ys : List V) : Sx TT H (upd H1 l (.lst ys)) :=
  ⟨fun b o h k => by rw [upd_ne (ne_of_none h n)]; exact s.x b o h k, fun t => tabs_wr (s.t t) e⟩
theorem Sx.at_ (s : Sx TT H H1) {b : Addr} {o : HO} (e : H b = some o) (n : ∀ ps, o ≠ .tbl ps) : H1 b = some o := s.x b o e n
theorem Sx.tup (s : Sx TT H H1) {b : Addr} {vs : List V} (e : H b = some (.tup vs)) : H1 b = some (.tup vs) := s.x b _ e fun _ z => by cases z
theorem Sx.li (s : Sx TT H H1) {b : Addr} {vs : List V} (e : H b = some (.lst vs)) : H1 b = some (.lst vs) := s.x b _ e fun _ z => by cases z
theorem Sx.free (s : Sx TT H H1) {b : Addr} (h : ∀ ps, H b ≠ some (.tbl ps)) (e : H1 b = none) : H b = none := by
  cases q : H b with
  | none => rfl
  | some o => rw [s.x b o q fun ps z => h ps (by rw [q, z])] at e; cases e
theorem Is.sx (s : Sx TT H H1) {v : V} {t : PV} (h : Is H v t) : Is H1 v t := h.extN s.x
theorem IsL.sx (s : Sx TT H H1) {v : List V} {t : List PV} (h : IsL H v t) : IsL H1 v t := IsL.extN s.x h
theorem KindIs.sx (s : Sx TT H H1) {v : V} {k : Option (Str × PV)} (h : KindIs H v k) : KindIs H1 v k := by
  cases k with
  | none => exact h
  | some k => exact Is.sx s h
theorem KindL.sx (s : Sx TT H H1) : ∀ {vs : List V} {ks : List (Option (Str × PV))}, KindL H vs ks → KindL H1 vs ks
  | _, _, .nil => .nil
  | _, _, .cons h t => .cons (h.sx s) (t.sx s)
end
theorem KindIs.wr {H : Hp} {l : Addr} {xs ys : List V} (e : H l = some (.lst xs)) {v : V} {k : Option (Str × PV)} (h : KindIs H v k) : KindIs (upd H l (.lst ys)) v k := by
  cases k with
  | none => exact h
  | some k => exact Is.wr e h
theorem KindL.wr {H : Hp} {l : Addr} {xs ys : List V} (e : H l = some (.lst xs)) : ∀ {vs : List V} {ks : List (Option (Str × PV))}, KindL H vs ks → KindL (upd H l (.lst ys)) vs ks
  | _, _, .nil => .nil
  | _, _, .cons h t => .cons (h.wr e) (t.wr e)
theorem KindL.snoc {H : Hp} {v : V} {k : Option (Str × PV)} (h : KindIs H v k) : ∀ {vs : List V} {ks : List (Option (Str × PV))}, KindL H vs ks → KindL H (vs ++ [v]) (ks ++ [k])
  | _, _, .nil => .cons h .nil
  | _, _, .cons a t => .cons a (t.snoc h)
structure PsG (ps : List (Str × PV)) : Prop where
  len : ps.length ≤ 3
  each : ∀ p ∈ ps, form MK true p.2 = true ∧ dep p.2 ≤ 3
  few : lcL (ps.map (·.2)) ≤ 100000
/-- raw values that are asked for -/
def ValG (cs : List Con) (n : Nat) (t : PV) : Prop := ∃ l, t = .tup l ∧ RawV cs t ∧ dep t ≤ n ∧ dep t ≤ 20
def spDem {K : PySem.W.Frag} (TT : List (Addr × Str)) (n : Nat) : Sp := fun vs H Q _ => ∃ (v : V) (fa wa : Addr) (x0 pv_ : V) (rest us : List V) (mk : List PV) (F : List Str) (cs : List Con) (ps : List (Str × PV)) (ts : List PV), vs = [v, .ref fa, .ref wa] ∧ LamX.Tabs TT H ∧ Is H v (tabPV mk F cs) ∧ TabG F cs ∧
  H fa = some (.tup (x0 :: pv_ :: rest)) ∧ Is H pv_ (.tup (ps.map prPV)) ∧ PsG ps ∧ SqT K H wa us ∧ (∀ H', Sx TT H H' → SqT K H' wa us) ∧ IsL H us ts ∧ (∀ t ∈ ts, ValG cs n t) ∧ ps.length = ts.length ∧
  (∀ al, treesFor ps (idxL cs ts) = some al → ∀ f H', Sx TT H H' → AsD H' f al → Q (.ref f) H') ∧ (treesFor ps (idxL cs ts) = none → ∀ H', Sx TT H H' → Q .non H')
theorem ok_demanded {n k : Nat} {TT : List (Addr × Str)} (hk : 6 ≤ k) (T : Txt K mg) (G_trees_for : FnOk P w K mg base CX0 6 T.a_trees_for T.d_trees_for ["asked", "kinds"] (spTrees 3)) (G_index_of : FnOk P w K mg base CX0 k T.a_index_of T.d_index_of ["table", "value"] (spIndex TT n)) : FnOk P w K mg base CX0 (k+1) T.a_demanded T.d_demanded ["table", "function", "values"] (spDem (K := K) TT n) := by
  refine T.F_demanded.ok sc_demanded (fun vs H Q E h => ?_) (fun cdv A outer s H vs Q E hr h => ?_)
  · obtain ⟨v, fa, wa, x0, pv_, rest, us, mk, F, cs, ps, ts, rfl, _⟩ := h; rfl
  · obtain ⟨v, fa, wa, x0, pv_, rest, us, mk, F, cs, ps, ts, rfl, hT, hI, G, ef, hP, PG, hS, hSx, hU, hV, hl, q1, q2⟩ := h
    have hr_trees_for : Room 6 _ := hr.mono hk
    have hr_index_of := hr
    have CG := con_of G
    have ul := hU.len
    refine ⟨_, (pss_one (ps_ret (pe_call G_trees_for hr_trees_for rfl T.m_trees_for T.F_trees_for.kp T.b_trees_for .nil pass0 (pa_cons (pe_ix ix_tup (pv 1) pe_int (fun _ _ => rfl)) (pa_cons (pe_lc (own := [("value", 3)]) (g := (gName 3)) (tt := tYes) rfl sc_demanded.nd (pi_tup (pv 2)) (blkOk_by (own := [("value", 3)]) (N := ["table", "function", "values", "value"]) (sc := defScope s_demanded) (by decide +kernel)) (fun _ _ _ _ _ => (pg_name (i := 3) sc_demanded.nd rfl (Or.inl rfl))) (fun _ _ _ _ _ => pts_nil) (fun _ _ _ _ _ => (pe_call G_index_of hr_index_of rfl T.m_index_of T.F_index_of.kp T.b_index_of .nil pass0 (pa_cons (pv 0) (pa_cons (pv 3) pa_nil))))) pa_nil))))), ?_⟩
    refine ⟨_, rfl, fa, _, _, _, rfl, rfl, .inl (.inl ef), atI_nat (j := 1) rfl, _, rfl, wa, rfl, ⟨us, hS⟩, fun D hD => ?_⟩
    have sD : Same H (upd H D (.lst [])) := same_upd hD _
    refine lc_tup (K := K) (a := wa) (xs := us) (fun i H2 => Sx TT H H2 ∧ ∃ ws, H2 D = some (.lst ws) ∧ KindL H2 ws (idxL cs (ts.take i)) ∧ ws.length = i) ⟨.of sD, [], upd_same, .nil, rfl⟩ (fun i H2 _ ⟨s, _⟩ => hSx _ s) ?_ ?_
    · rintro i x H2 hx ⟨s2, ws, eD, hK, hw⟩
      obtain ⟨y, ey, iy⟩ := hU.get hx
      obtain ⟨hi, ey2⟩ := List.getElem?_eq_some_iff.mp ey
      obtain ⟨l, rfl, raw, d1, d2⟩ := hV y (List.mem_of_getElem? ey)
      refine ⟨rfl, yes_if ⟨_, rfl, _, rfl, v, x, mk, F, cs, l, rfl, s2.t hT, hI.sx s2, G, iy.sx s2, raw, d1, d2, fun r H3 x3 T3 hk => ?_⟩⟩
      have s3 : Sx TT H2 H3 := ⟨x3, fun _ => T3⟩
      have eD3 := s3.li eD
      refine ⟨ws, eD3, small1000 (by rw [hw]; have := PG.len; omega), (s2.trans s3).lst hD eD3 _, ws ++ [r], upd_same, ?_, by rw [List.length_append, hw]; rfl⟩
      rw [List.take_succ_eq_append_getElem hi, ey2, idxL_map, List.map_append, ← idxL_map]
      exact ((hK.sx s3).snoc hk).wr eD3
    · rintro H2 ⟨s2, ws, eD, hK, hw⟩
      rw [ul, List.take_length] at hK
      obtain ⟨pa, pvs, rfl, ep, _⟩ := id hP.tup_inv
      refine ⟨pa, D, ps, idxL cs ts, ws, rfl, hP.sx s2, eD, hK, by rw [idxL_map, List.length_map]; exact hl, PG.len, PG.each, fun k hk x ex => ?_, PG.few, fun al hal f H3 s3 _ hA => q1 al hal f H3 (s2.trans (.of s3)) hA, fun hn H3 s3 => q2 hn H3 (s2.trans (.of s3))⟩
      obtain ⟨a1, a2, a3⟩ := idxL_tree CG ts (fun t ht => by obtain ⟨_, _, r, _⟩ := hV t ht; exact r) k hk x ex
      have dl : depL ts ≤ 20 := depL_le fun t ht => by obtain ⟨_, _, _, _, d⟩ := hV t ht; exact d
      exact ⟨a1, a2, by omega⟩
end
end Kx
/-! Data without anything else in it: read as data; == and != of such at any depth. -/
namespace Kx
open PySem PySem.Spec PyProof.Rows L2
noncomputable instance decPV : DecidableEq PV := fun _ _ => Classical.propDecidable _
mutual
/-- nothing but texts and tuples -/
def NoO : PV → Prop
  | .str _ => True
  | .oth => False
  | .tup l => NoOL l
def NoOL : List PV → Prop
  | [] => True
  | t :: r => NoO t ∧ NoOL r
end
theorem NoOL_mem : ∀ {l : List PV}, (∀ t ∈ l, NoO t) → NoOL l
  | [], _ => trivial
  | t :: r, h => ⟨h t (List.mem_cons_self ..), NoOL_mem fun x hx => h x (List.mem_cons_of_mem _ hx)⟩
theorem mem_NoOL : ∀ {l : List PV}, NoOL l → ∀ t ∈ l, NoO t
  | a :: r, h, t, ht => by
    rcases List.mem_cons.mp ht with rfl | ht
    · exact h.1
    · exact mem_NoOL h.2 t ht
mutual
theorem tm_no : ∀ {t : PV}, Tm t → NoO t
  | .str _, _ => trivial
  | .oth, h => absurd h id
  | .tup [], h => absurd h id
  | .tup (.oth :: _), h => absurd h id
  | .tup (.tup _ :: _), h => absurd h id
  | .tup (.str _ :: r), h => ⟨trivial, tmL_no h⟩
theorem tmL_no : ∀ {l : List PV}, TmL l → NoOL l
  | [], _ => trivial
  | t :: r, h => ⟨tm_no h.1, tmL_no h.2⟩
end
mutual
theorem Is.tk {H H' : Hp} (x : ∀ a vs, H a = some (.tup vs) → H' a = some (.tup vs)) : ∀ {v : V} {t : PV}, NoO t → Is H v t → Is H' v t
  | _, _, _, .str z k => .str z k
  | _, _, h, .non => absurd h id
  | _, _, h, .bl _ => absurd h id
  | _, _, h, .int _ => absurd h id
  | _, _, h, .lst _ => absurd h id
  | _, _, h, .dict _ => absurd h id
  | _, _, h, .tup e i => .tup (x _ _ e) (IsL.tk x h i)
theorem IsL.tk {H H' : Hp} (x : ∀ a vs, H a = some (.tup vs) → H' a = some (.tup vs)) : ∀ {v : List V} {t : List PV}, NoOL t → IsL H v t → IsL H' v t
  | _, _, _, .nil => .nil
  | _, _, h, .cons a r => .cons (Is.tk x h.1 a) (IsL.tk x h.2 r)
end
mutual
def toD : PV → PyData
  | .str z => .str z
  | .oth => .none
  | .tup l => .tuple (toDL l)
def toDL : List PV → List PyData
  | [] => []
  | t :: r => toD t :: toDL r
end
mutual
theorem eqv_eq : ∀ {a b : PV}, NoO a → NoO b → PyData.eqv (toD a) (toD b) = true → a = b
  | .oth, _, h, _, _ => absurd h id
  | .str _, .oth, _, h, _ => absurd h id
  | .tup _, .oth, _, h, _ => absurd h id
  | .str x, .str y, _, _, h => by simp only [toD, PyData.eqv, beq_iff_eq] at h; rw [h]
  | .str x, .tup _, _, _, h => by simp [toD, PyData.eqv] at h
  | .tup _, .str y, _, _, h => by simp [toD, PyData.eqv] at h
  | .tup l, .tup m, h1, h2, h => by
    simp only [toD, PyData.eqv] at h
    rw [eqvL_eq h1 h2 h]
theorem eqvL_eq : ∀ {a b : List PV}, NoOL a → NoOL b → PyData.eqvAll (toDL a) (toDL b) = true → a = b
  | [], [], _, _, _ => rfl
  | [], _ :: _, _, _, h => by simp [toDL, PyData.eqvAll] at h
  | _ :: _, [], _, _, h => by simp [toDL, PyData.eqvAll] at h
  | x :: r, y :: q, h1, h2, h => by
    simp only [toDL, PyData.eqvAll, Bool.and_eq_true] at h
    rw [eqv_eq h1.1 h2.1 h.1, eqvL_eq h1.2 h2.2 h.2]
end
mutual
theorem eqv_self : ∀ a : PV, PyData.eqv (toD a) (toD a) = true
  | .str x => by simp [toD, PyData.eqv]
  | .oth => by simp [toD, PyData.eqv]
  | .tup xs => by simp only [toD, PyData.eqv]; exact eqvL_self xs
theorem eqvL_self : ∀ a : List PV, PyData.eqvAll (toDL a) (toDL a) = true
  | [] => by simp [toDL, PyData.eqvAll]
  | x :: r => by simp only [toDL, PyData.eqvAll, eqv_self x, eqvL_self r, Bool.and_self]
end
theorem eqv_one {a b : PV} (ha : NoO a) (hb : NoO b) : PyData.eqv (toD a) (toD b) = decide (a = b) := by
  by_cases e : a = b
  · subst e; rw [eqv_self]; simp
  · rw [decide_eq_false e]
    cases h : PyData.eqv (toD a) (toD b) with
    | false => rfl
    | true => exact absurd (eqv_eq ha hb h) e
mutual
theorem toD_depth : ∀ t : PV, (toD t).depth ≤ dep t
  | .str _ => by simp [toD, PyData.depth]
  | .oth => by simp [toD, PyData.depth]
  | .tup ts => by
    have := toDL_depth ts
    simp only [toD, PyData.depth, dep]; omega
theorem toDL_depth : ∀ l : List PV, PyData.depthAll (toDL l) ≤ depL l
  | [] => by simp [toDL, PyData.depthAll]
  | t :: r => by
    have a := toD_depth t
    have b := toDL_depth r
    simp only [toDL, PyData.depthAll, depL]; omega
end
mutual
theorem Is.lay {H : Hp} : ∀ {v : V} {t : PV}, Is H v t → (toD t).canLay0 = true
  | _, _, .str z k => by simp only [toD, PyData.canLay0]; exact k
  | _, _, .non => rfl
  | _, _, .bl _ => rfl
  | _, _, .int _ => rfl
  | _, _, .lst _ => rfl
  | _, _, .dict _ => rfl
  | _, _, .tup e h => by simp only [toD, PyData.canLay0]; exact IsL.lay h
theorem IsL.lay {H : Hp} : ∀ {v : List V} {t : List PV}, IsL H v t → PyData.canLayAll0 (toDL t) = true
  | _, _, .nil => by simp [toDL, PyData.canLayAll0]
  | _, _, .cons h r => by simp only [toDL, PyData.canLayAll0, Is.lay h, IsL.lay r, Bool.and_self]
end
mutual
theorem Is.dp {K : PySem.W.Frag} {H : Hp} : ∀ {v : V} {t : PV}, NoO t → Is H v t → Dp K H v (toD t)
  | _, _, _, .str z k => by simp only [toD]; exact .str z
  | _, _, h, .non => absurd h id
  | _, _, h, .bl _ => absurd h id
  | _, _, h, .int _ => absurd h id
  | _, _, h, .lst _ => absurd h id
  | _, _, h, .dict _ => absurd h id
  | _, _, h, .tup e i => by simp only [toD]; exact .tup (.inl (.inl e)) (IsL.dp h i)
theorem IsL.dp {K : PySem.W.Frag} {H : Hp} : ∀ {v : List V} {t : List PV}, NoOL t → IsL H v t → DpAll K H v (toDL t)
  | _, _, _, .nil => by simp only [toDL]; exact .nil
  | _, _, h, .cons a r => by simp only [toDL]; exact .cons (Is.dp h.1 a) (IsL.dp h.2 r)
end
/-- None, or such data -/
def DtIs (H : Hp) (v : V) : Option PV → Prop
  | none => v = .non
  | some t => Is H v t ∧ NoO t ∧ dep t ≤ 150
def toDo : Option PV → PyData
  | none => .none
  | some t => toD t
theorem DtIs.dp {K : PySem.W.Frag} {H : Hp} {v : V} {d : Option PV} (h : DtIs H v d) : Dp K H v (toDo d) := by
  cases d with
  | none => rw [show v = _ from h]; exact .non
  | some t => exact Is.dp h.2.1 h.1
theorem DtIs.lay {H : Hp} {v : V} {d : Option PV} (h : DtIs H v d) : (toDo d).canLay0 = true := by
  cases d with
  | none => rfl
  | some t => exact h.1.lay
theorem DtIs.dep {H : Hp} {v : V} {d : Option PV} (h : DtIs H v d) : (toDo d).depth ≤ 150 := by
  cases d with
  | none => simp [toDo, PyData.depth]
  | some t => have := toD_depth t; have := h.2.2; simp only [toDo]; omega
theorem eqv_opt {H : Hp} {v u : V} {a b : Option PV} (ha : DtIs H v a) (hb : DtIs H u b) : PyData.eqv (toDo a) (toDo b) = decide (a = b) := by
  cases a with
  | none =>
    cases b with
    | none => simp [toDo, PyData.eqv]
    | some t => cases t with
      | str _ => simp [toDo, toD, PyData.eqv]
      | oth => exact absurd hb.2.1 id
      | tup _ => simp [toDo, toD, PyData.eqv]
  | some t =>
    cases b with
    | none => cases t with
      | str _ => simp [toDo, toD, PyData.eqv]
      | oth => exact absurd ha.2.1 id
      | tup _ => simp [toDo, toD, PyData.eqv]
    | some u =>
      simp only [toDo, eqv_one ha.2.1 hb.2.1, Option.some.injEq]
section
variable {X : Cx}
theorem u200 {A : Around} {k : Nat} (r : Room k A) : A.units + 200 < cLine := by have := r.un; omega
def rEqP (K : PySem.W.Frag) : R2 := fun x y H Q => ∃ d e, Dp K H x d ∧ Dp K H y e ∧ d.canLay0 = true ∧ e.canLay0 = true ∧ d.depth ≤ 190 ∧ Q (.bl (PyData.eqv d e)) H
def rNeP (K : PySem.W.Frag) : R2 := fun x y H Q => ∃ d e, Dp K H x d ∧ Dp K H y e ∧ d.canLay0 = true ∧ e.canLay0 = true ∧ d.depth ≤ 190 ∧ Q (.bl (!PyData.eqv d e)) H
theorem eqP {K : PySem.W.Frag} (hu : X.A.units + 200 < cLine) (hK : X.K = K := by rfl) : OpR X (compareOp .Eq) (rEqP K) := by
  subst hK
  intro pins s σ H x y v u Q I rx ry h
  obtain ⟨d, e, hd, he, sd, se, l, q⟩ := h
  obtain ⟨as, r1⟩ := Dp.reads I d x v hd rx
  obtain ⟨bs, r2⟩ := Dp.reads I e y u he ry
  exact SeqAt.compareEq_reads r1 r2 sd se (by omega) ⟨.bl _, H, I, rfl, q⟩
theorem neP {K : PySem.W.Frag} (hu : X.A.units + 200 < cLine) (hK : X.K = K := by rfl) : OpR X (compareOp .NotEq) (rNeP K) := by
  subst hK
  intro pins s σ H x y v u Q I rx ry h
  obtain ⟨d, e, hd, he, sd, se, l, q⟩ := h
  obtain ⟨as, r1⟩ := Dp.reads I d x v hd rx
  obtain ⟨bs, r2⟩ := Dp.reads I e y u he ry
  exact SeqAt.compareNe_reads r1 r2 sd se (by omega) ⟨.bl _, H, I, rfl, q⟩
theorem rNe_dt {K : PySem.W.Frag} {H : Hp} {v u : V} {a b : Option PV} {Q : VK} (ha : DtIs H v a) (hb : DtIs H u b) (q : Q (.bl (!decide (a = b))) H) : rNeP K v u H Q :=
  ⟨_, _, ha.dp, hb.dp, ha.lay, hb.lay, Nat.le_trans ha.dep (by decide), by rw [eqv_opt ha hb]; exact q⟩
theorem rEq_dt {K : PySem.W.Frag} {H : Hp} {v u : V} {a b : Option PV} {Q : VK} (ha : DtIs H v a) (hb : DtIs H u b) (q : Q (.bl (decide (a = b))) H) : rEqP K v u H Q :=
  ⟨_, _, ha.dp, hb.dp, ha.lay, hb.lay, Nat.le_trans ha.dep (by decide), by rw [eqv_opt ha hb]; exact q⟩
/-- lists of texts -/
theorem strs_dp {K : PySem.W.Frag} {H : Hp} : ∀ zs : List Str, DpAll K H (zs.map V.str) (zs.map PyData.str)
  | [] => .nil
  | z :: r => .cons (.str z) (strs_dp r)
theorem strs_lay : ∀ zs : List Str, (∀ z ∈ zs, sok z = true) → PyData.canLayAll0 (zs.map PyData.str) = true
  | [], _ => by simp [PyData.canLayAll0]
  | z :: r, h => by
    have a : PyData.canLay0 (.str z) = true := by simp only [PyData.canLay0]; exact h z (List.mem_cons_self ..)
    have b := strs_lay r fun x hx => h x (List.mem_cons_of_mem _ hx)
    simp only [List.map_cons, PyData.canLayAll0, a, b, Bool.and_self]
theorem strs_depth : ∀ zs : List Str, PyData.depthAll (zs.map PyData.str) ≤ 1
  | [] => by simp [PyData.depthAll]
  | z :: r => by have := strs_depth r; simp only [List.map_cons, PyData.depthAll, PyData.depth]; omega
theorem strs_eqv : ∀ zs ws : List Str, PyData.eqvAll (zs.map PyData.str) (ws.map PyData.str) = decide (zs = ws)
  | [], [] => by simp [PyData.eqvAll]
  | [], _ :: _ => by simp [PyData.eqvAll]
  | _ :: _, [] => by simp [PyData.eqvAll]
  | z :: r, w :: q => by
    simp only [List.map_cons, PyData.eqvAll, PyData.eqv, strs_eqv r q]
    by_cases e : z = w <;> by_cases e2 : r = q <;> simp [e, e2]
theorem strs_data {K : PySem.W.Frag} {H : Hp} {a : Addr} {zs : List Str} (h : SqL K H a (zs.map V.str)) : Dp K H (.ref a) (.list (zs.map PyData.str)) := .lst h (strs_dp zs)
theorem rNe_strs {K : PySem.W.Frag} {H : Hp} {a b : Addr} {zs ws : List Str} {Q : VK} (h1 : SqL K H a (zs.map V.str)) (h2 : SqL K H b (ws.map V.str)) (o1 : ∀ z ∈ zs, sok z = true) (o2 : ∀ z ∈ ws, sok z = true) (q : Q (.bl (!decide (zs = ws))) H) : rNeP K (.ref a) (.ref b) H Q :=
  ⟨_, _, strs_data h1, strs_data h2, by simp only [PyData.canLay0]; exact strs_lay _ o1, by simp only [PyData.canLay0]; exact strs_lay _ o2, by have := strs_depth zs; simp only [PyData.depth]; omega, by
    simp only [PyData.eqv, strs_eqv]; exact q⟩
theorem rEq_strs {K : PySem.W.Frag} {H : Hp} {a b : Addr} {zs ws : List Str} {Q : VK} (h1 : SqL K H a (zs.map V.str)) (h2 : SqL K H b (ws.map V.str)) (o1 : ∀ z ∈ zs, sok z = true) (o2 : ∀ z ∈ ws, sok z = true) (q : Q (.bl (decide (zs = ws))) H) : rEqP K (.ref a) (.ref b) H Q :=
  ⟨_, _, strs_data h1, strs_data h2, by simp only [PyData.canLay0]; exact strs_lay _ o1, by simp only [PyData.canLay0]; exact strs_lay _ o2, by have := strs_depth zs; simp only [PyData.depth]; omega, by
    simp only [PyData.eqv, strs_eqv]; exact q⟩
end
end Kx
/-! The law's own fitting: pairs that are left, taken from the end. -/
namespace Kx
open PySem PySem.Spec PyProof.Rows L2
/-- what fitting gives -/
noncomputable def lfit (ps ts : List PV) : Option AL := if (fitL [] ps ts).1 = true then some (fitL [] ps ts).2 else none
/-- pairs that are left and what is found tell the same assignments -/
def FInv (ps ts : List PV) (L : List (PV × PV)) (f : AL) : Prop := ∀ g : AL, psubL g ps = ts ↔ (Le f g ∧ ∀ pt ∈ L, psub g pt.1 = pt.2)
theorem psub_str {g : AL} {z : Str} {t : PV} (ht : Gr t) : psub g (.str z) = t ↔ get g z = some t := by
  obtain ⟨w, r, rfl, _⟩ := gr_inv ht
  simp only [psub]
  cases e : get g z with
  | none => simp
  | some u => simp
theorem psubL_zip {g : AL} : ∀ {a b : List PV}, a.length = b.length → (psubL g a = b ↔ ∀ pt ∈ a.zip b, psub g pt.1 = pt.2)
  | [], [], _ => by simp [psubL]
  | x :: r, y :: q, h => by
    have ih := psubL_zip (g := g) (a := r) (b := q) (by simpa using h)
    simp only [psubL, List.cons.injEq, List.zip_cons_cons, List.forall_mem_cons, ih]
theorem FInv.start {ps ts : List PV} (hl : ps.length = ts.length) : FInv ps ts (ps.zip ts) [] := fun g => by
  rw [psubL_zip hl]
  exact ⟨fun h => ⟨fun z u e => by simp [get] at e, h⟩, fun h => h.2⟩
theorem FInv.name {ps ts : List PV} {L : List (PV × PV)} {f : AL} {z : Str} {t : PV} (h : FInv ps ts (L ++ [(.str z, t)]) f) (ht : Gr t) (e : get f z = some t) : FInv ps ts L f := fun g => by
  rw [h g]
  refine ⟨fun ⟨a, b⟩ => ⟨a, fun pt hp => b pt (List.mem_append_left _ hp)⟩, fun ⟨a, b⟩ => ⟨a, fun pt hp => ?_⟩⟩
  rcases List.mem_append.mp hp with q | q
  · exact b pt q
  · rw [List.mem_singleton.mp q]
    exact (psub_str ht).mpr (a z t e)
theorem FInv.new {ps ts : List PV} {L : List (PV × PV)} {f : AL} {z : Str} {t : PV} (h : FInv ps ts (L ++ [(.str z, t)]) f) (ht : Gr t) (e : get f z = none) : FInv ps ts L (f ++ [(z, t)]) := fun g => by
  rw [h g]
  refine ⟨fun ⟨a, b⟩ => ⟨fun y u ey => ?_, fun pt hp => b pt (List.mem_append_left _ hp)⟩, fun ⟨a, b⟩ => ⟨fun y u ey => a y u ?_, fun pt hp => ?_⟩⟩
  · rw [get_append e] at ey
    by_cases q : y = z
    · rw [if_pos q] at ey
      cases ey
      rw [q]
      exact (psub_str ht).mp (b (.str z, t) (List.mem_append_right _ (List.mem_singleton.mpr rfl)))
    · rw [if_neg q] at ey
      exact a y u ey
  · rw [get_append e, if_neg fun q => by rw [q, e] at ey; cases ey]
    exact ey
  · rcases List.mem_append.mp hp with q | q
    · exact b pt q
    · rw [List.mem_singleton.mp q]
      exact (psub_str ht).mpr (a z t (by rw [get_append e, if_pos rfl]))
theorem FInv.parts {ps ts : List PV} {L : List (PV × PV)} {f : AL} {w : Str} {a b : List PV} (h : FInv ps ts (L ++ [(.tup (.str w :: a), .tup (.str w :: b))]) f) (hl : a.length = b.length) : FInv ps ts (L ++ a.zip b) f := fun g => by
  rw [h g]
  have key : psub g (.tup (.str w :: a)) = .tup (.str w :: b) ↔ ∀ pt ∈ a.zip b, psub g pt.1 = pt.2 := by
    rw [← psubL_zip hl]
    simp only [psub, PV.tup.injEq, List.cons.injEq, true_and]
  refine ⟨fun ⟨x, y⟩ => ⟨x, fun pt hp => ?_⟩, fun ⟨x, y⟩ => ⟨x, fun pt hp => ?_⟩⟩
  · rcases List.mem_append.mp hp with q | q
    · exact y pt (List.mem_append_left _ q)
    · exact key.mp (y _ (List.mem_append_right _ (List.mem_singleton.mpr rfl))) pt q
  · rcases List.mem_append.mp hp with q | q
    · exact y pt (List.mem_append_left _ q)
    · rw [List.mem_singleton.mp q]
      exact key.mpr fun pt hp => y pt (List.mem_append_right _ hp)
section
variable {mk : List (Str × Int)} {ps ts : List PV}
/-- no assignment: fitting gives none -/
theorem lfit_none (hl : ps.length = ts.length) (h1 : formL mk true ps = true) (h2 : formL mk true ts = true) (no : ∀ g : AL, psubL g ps ≠ ts) : lfit ps ts = none := by
  unfold lfit
  rw [if_neg]
  intro e
  exact no _ (fitL_sound (mk := mk) _ ps ts [] hl h1 h2 e (.refl _))
/-- nothing is left: what was found is what fitting gives -/
theorem lfit_some {f : AL} (hl : ps.length = ts.length) (h1 : formL mk true ps = true) (h2 : formL mk true ts = true) (g2 : GrL ts) (h : FInv ps ts [] f) : ∃ al, lfit ps ts = some al ∧ ∀ z, get f z = get al z := by
  have sol : psubL f ps = ts := (h f).mpr ⟨.refl _, fun _ m => by cases m⟩
  obtain ⟨y, le⟩ := fitL_complete f ps ts [] (formL_tm ps h1) g2 (fun z u e => by simp [get] at e) sol
  refine ⟨(fitL [] ps ts).2, by unfold lfit; rw [if_pos y], fun z => ?_⟩
  have le2 : Le f (fitL [] ps ts).2 := ((h _).mp (fitL_sound (mk := mk) _ ps ts [] hl h1 h2 y (.refl _))).1
  cases e : get f z with
  | some u => exact (le2 z u e).symm
  | none =>
    cases e2 : get (fitL [] ps ts).2 z with
    | none => rfl
    | some u => rw [le z u e2] at e; cases e
end
mutual
/-- no name is told twice -/
theorem fit_nd : ∀ (p t : PV) (f : AL), (f.map (·.1)).Nodup → ((fit f p t).2.map (·.1)).Nodup
  | .str z, t, f, h => by
    unfold fit
    cases e : Kx.get f z with
    | some u => exact h
    | none =>
      simp only [List.map_append, List.map_cons, List.map_nil]
      refine List.nodup_append.mpr ⟨h, by simp, fun a ha b hb q => ?_⟩
      rw [List.mem_singleton.mp hb] at q
      obtain ⟨kv, hk, ek⟩ := List.mem_map.mp ha
      unfold Kx.get at e
      have n : f.find? (fun kv => kv.1 == z) = none := by
        cases e3 : f.find? (fun kv => kv.1 == z) with
        | none => rfl
        | some y => rw [e3] at e; cases e
      have := List.find?_eq_none.mp n kv hk
      simp only [beq_iff_eq] at this
      exact this (ek.trans q)
  | .tup (.str w :: ps), .tup (.str w' :: ts), f, h => by
    rw [fit_tups]
    split
    · exact fitL_nd ps ts f h
    · exact h
  | .tup (.str w :: ps), .str _, f, h => by simp only [fit]; exact h
  | .tup (.str w :: ps), .oth, f, h => by simp only [fit]; exact h
  | .tup (.str w :: ps), .tup [], f, h => by simp only [fit]; exact h
  | .tup (.str w :: ps), .tup (.oth :: _), f, h => by simp only [fit]; exact h
  | .tup (.str w :: ps), .tup (.tup _ :: _), f, h => by simp only [fit]; exact h
  | .tup [], t, f, h => by cases t <;> (simp only [fit]; exact h)
  | .tup (.oth :: _), t, f, h => by cases t <;> (simp only [fit]; exact h)
  | .tup (.tup _ :: _), t, f, h => by cases t <;> (simp only [fit]; exact h)
  | .oth, t, f, h => by cases t <;> (simp only [fit]; exact h)
theorem fitL_nd : ∀ (ps ts : List PV) (f : AL), (f.map (·.1)).Nodup → ((fitL f ps ts).2.map (·.1)).Nodup
  | p :: ps, t :: ts, f, h => by
    have a := fit_nd p t f h
    rw [fitL_cons]
    split
    · exact fitL_nd ps ts _ a
    · exact a
  | [], t, f, h => by rw [fitL_nil]; exact h
  | _ :: _, [], f, h => by simp only [fitL]; exact h
end
theorem nd_len {α : Type} [DecidableEq α] : ∀ {l m : List α}, l.Nodup → (∀ x ∈ l, x ∈ m) → l.length ≤ m.length
  | [], _, _, _ => by simp
  | a :: r, m, n, s => by
    simp only [List.nodup_cons] at n
    have hm := s a (List.mem_cons_self ..)
    have k := nd_len (m := m.erase a) n.2 fun x hx => (List.mem_erase_of_ne fun e => n.1 (by rw [← e]; exact hx)).mpr (s x (List.mem_cons_of_mem _ hx))
    rw [List.length_erase_of_mem hm] at k
    have := List.length_pos_of_mem hm
    simp only [List.length_cons]
    omega
/-- two that tell the same, no name twice, are of one length -/
theorem get_mem {f : AL} (n : (f.map (·.1)).Nodup) : ∀ {z : Str} {t : PV}, (z, t) ∈ f ↔ get f z = some t := by
  induction f with
  | nil => intro z t; simp [get]
  | cons kv r ih =>
    intro z t
    simp only [List.map_cons, List.nodup_cons] at n
    unfold get at ih ⊢
    by_cases e : kv.1 = z
    · simp only [List.find?_cons, e, beq_self_eq_true, Option.map_some]
      constructor
      · intro h
        rcases List.mem_cons.mp h with q | q
        · rw [← q]
        · exact absurd (List.mem_map.mpr ⟨(z, t), q, e.symm⟩) n.1
      · intro h
        have h2 := Option.some.inj h
        exact List.mem_cons.mpr (.inl (by rw [← e, ← h2]))
    · have ne : (kv.1 == z) = false := beq_eq_false_iff_ne.mpr e
      simp only [List.find?_cons, ne]
      rw [← ih n.2]
      constructor
      · intro h
        rcases List.mem_cons.mp h with q | q
        · rw [← q] at e; exact absurd rfl e
        · exact q
      · exact fun h => List.mem_cons_of_mem _ h
theorem len_get {f g : AL} (n1 : (f.map (·.1)).Nodup) (n2 : (g.map (·.1)).Nodup) (h : ∀ z, get f z = get g z) : f.length = g.length := by
  have sub : ∀ {a b : AL}, (a.map (·.1)).Nodup → (b.map (·.1)).Nodup → (∀ z, get a z = get b z) → a.length ≤ b.length := fun {a b} na nb hab => by
    have s : (a.map (·.1)) ⊆ (b.map (·.1)) := fun z hz => by
      obtain ⟨kv, hk, ek⟩ := List.mem_map.mp hz
      have : get a kv.1 = some kv.2 := (get_mem na).mp hk
      rw [hab] at this
      exact List.mem_map.mpr ⟨_, (get_mem nb).mpr this, ek⟩
    have := nd_len na fun x hx => s hx
    simpa using this
  exact Nat.le_antisymm (sub n1 n2 h) (sub n2 n1 fun z => (h z).symm)
mutual
theorem vsz_le {mk : List (Str × Int)} (ar : Ar mk) : ∀ t : PV, form mk true t = true → vsz t + 1 ≤ 2 ^ dep t
  | .str _, _ => by simp [vsz, dep]
  | .oth, h => by simp [form] at h
  | .tup [], h => by simp [form] at h
  | .tup (.oth :: _), h => by simp [form] at h
  | .tup (.tup _ :: _), h => by simp [form] at h
  | .tup (.str w :: r), h => by
    simp only [form, Bool.and_eq_true, beq_iff_eq] at h
    have a := ar w _ h.1
    have b := vszL_le ar r h.2
    have d : dep (.tup (.str w :: r)) = 1 + max 1 (depL r) := dep_cons w r
    rw [d, Nat.pow_add]
    simp only [vsz]
    have e : r.length ≤ 2 := by omega
    have c : r.length * 2 ^ depL r ≤ r.length * 2 ^ (max 1 (depL r)) := Nat.mul_le_mul_left _ (Nat.pow_le_pow_right (by decide) (Nat.le_max_right ..))
    have p : 2 ≤ 2 ^ (max 1 (depL r)) := Nat.le_trans (by decide : 2 ≤ 2 ^ 1) (Nat.pow_le_pow_right (by decide) (Nat.le_max_left ..))
    generalize 2 ^ (max 1 (depL r)) = X at c p ⊢
    rcases (by omega : r.length = 0 ∨ r.length = 1 ∨ r.length = 2) with l | l | l <;> rw [l] at b c <;> omega
theorem vszL_le {mk : List (Str × Int)} (ar : Ar mk) : ∀ l : List PV, formL mk true l = true → vszL l + l.length ≤ l.length * 2 ^ depL l
  | [], _ => by simp [vszL]
  | t :: r, h => by
    simp only [formL, Bool.and_eq_true] at h
    have a := vsz_le ar t h.1
    have b := vszL_le ar r h.2
    simp only [vszL, List.length_cons, depL]
    have c : 2 ^ dep t ≤ 2 ^ (max (dep t) (depL r)) := Nat.pow_le_pow_right (by decide) (Nat.le_max_left ..)
    have d : r.length * 2 ^ depL r ≤ r.length * 2 ^ (max (dep t) (depL r)) := Nat.mul_le_mul_left _ (Nat.pow_le_pow_right (by decide) (Nat.le_max_right ..))
    rw [Nat.add_mul, Nat.one_mul]
    omega
end
end Kx
namespace Kx
open PySem PySem.Spec PyProof.Rows L2
section
variable {P : Program} {w : World} {K : PySem.W.Frag} {mg : Str → Option Value} {base : Heap}
/-! ### _law_fit -/
def prp (pt : PV × PV) : PV := .tup [pt.1, pt.2]
def POk (d : Nat) (L : List (PV × PV)) : Prop := ∀ pt ∈ L, form MK true pt.1 = true ∧ TreeG MK d pt.2
def GrA (f : AL) : Prop := ∀ kv ∈ f, Gr kv.2 ∧ dep kv.2 ≤ 150
theorem AsD.tk {H H' : Hp} {p : Addr} {al : AL} (g : GrA al) (x : ∀ a vs, H a = some (.tup vs) → H' a = some (.tup vs)) (s : ∀ kvs, H p = some (.dK kvs) → H' p = some (.dK kvs)) (h : AsD H p al) : AsD H' p al := by
  obtain ⟨kvs, e, b⟩ := h
  exact ⟨kvs, s _ e, Paired.both b fun zt hz _ ⟨q, y⟩ => ⟨q, Is.tk x (tm_no (gr_tm (g zt hz).1)) y⟩⟩
theorem AsD.re {H : Hp} {p : Addr} {al : AL} {kvs : List (Key × V)} {z : Str} {v : V} {t : PV} (g : GrA al) (nd : (al.map (·.1)).Nodup) (ht : Gr t) (e : H p = some (.dK kvs)) (b : Paired (fun kv zt => kv.1 = Sum.inr zt.1 ∧ Is H kv.2 zt.2) kvs al) (n : get al z = some t) (h : Is H v t) :
    AsD (upd H p (.dK (putK kvs (Sum.inr z) v))) p al := by
  have x : ∀ a vs, H a = some (.tup vs) → (upd H p (.dK (putK kvs (Sum.inr z) v))) a = some (.tup vs) := fun a vs ea => by rw [upd_ne fun q => by rw [q, e] at ea; cases ea]; exact ea
  refine ⟨_, upd_same, ?_⟩
  have hv : (kvs.any fun kv => decide (kv.1 = Sum.inr z)) = true := by
    rw [valV_any]
    rcases pair_val z b with ⟨_, q⟩ | ⟨_, _, q, _⟩
    · rw [n] at q; cases q
    · rw [q]; rfl
  have one_ : ∀ zt ∈ al, zt.1 = z → zt.2 = t := fun zt hz q => by
    have : get al zt.1 = some zt.2 := (get_mem nd).mp hz
    rw [q, n] at this
    exact (Option.some.inj this).symm
  have key : ∀ {ks : List (Key × V)} {l : AL}, (∀ zt ∈ l, zt ∈ al) → Paired (fun kv zt => kv.1 = Sum.inr zt.1 ∧ Is H kv.2 zt.2) ks l → Paired (fun kv zt => kv.1 = Sum.inr zt.1 ∧ Is (upd H p (.dK (putK kvs (Sum.inr z) v))) kv.2 zt.2) (ks.map fun kv => if kv.1 = Sum.inr z then (kv.1, v) else kv) l := by
    intro ks l sub pp
    induction pp with
    | nil => exact .nil
    | @cons kv zt ks l h2 t2 ih =>
      refine .cons ?_ (ih fun y hy => sub y (List.mem_cons_of_mem _ hy))
      obtain ⟨h3, h4⟩ := h2
      have gz := (g zt (sub zt (List.mem_cons_self ..))).1
      by_cases q : kv.1 = Sum.inr z
      · simp only [if_pos q]
        refine ⟨h3, ?_⟩
        have : zt.2 = t := one_ zt (sub zt (List.mem_cons_self ..)) (Sum.inr.inj (h3.symm.trans q))
        rw [this]
        exact Is.tk x (tm_no (gr_tm ht)) h
      · simp only [if_neg q]
        exact ⟨h3, Is.tk x (tm_no (gr_tm gz)) h4⟩
  rw [show putK kvs (Sum.inr z) v = kvs.map (fun kv => if kv.1 = Sum.inr z then (kv.1, v) else kv) by unfold putK; rw [if_pos hv]]
  have k2 := key (fun _ h => h) b
  rw [show putK kvs (Sum.inr z) v = kvs.map (fun kv => if kv.1 = Sum.inr z then (kv.1, v) else kv) by unfold putK; rw [if_pos hv]] at k2
  exact k2
theorem tuk {H H1 : Hp} (s : Same H H1) : ∀ a vs, H a = some (.tup vs) → H1 a = some (.tup vs) := fun _ _ e => s _ _ e
theorem vszL_append : ∀ a b : List PV, vszL (a ++ b) = vszL a + vszL b
  | [], b => by simp [vszL]
  | x :: r, b => by simp only [List.cons_append, vszL, vszL_append r b]; omega
theorem POk.no {d : Nat} {L : List (PV × PV)} (h : POk d L) : NoOL (L.map prp) := NoOL_mem fun t ht => by
  obtain ⟨pt, hp, rfl⟩ := List.mem_map.mp ht
  obtain ⟨a, b, c, _⟩ := h pt hp
  exact ⟨tm_no (form_tm _ a), tm_no (gr_tm c), trivial⟩
theorem vsz_pos {mk : List (Str × Int)} {t : PV} (h : form mk true t = true) : 1 ≤ vsz t := by
  cases t with
  | oth => simp [form] at h
  | str z => simp [vsz]
  | tup l => cases l with
    | nil => simp [form] at h
    | cons x r => simp only [vsz]; omega
theorem vszL_len {mk : List (Str × Int)} : ∀ {l : List PV}, (∀ t ∈ l, form mk true t = true) → l.length ≤ vszL l
  | [], _ => by simp
  | t :: r, h => by
    have a := vsz_pos (h t (List.mem_cons_self ..))
    have b := vszL_len (l := r) fun x hx => h x (List.mem_cons_of_mem _ hx)
    simp only [vszL, List.length_cons]; omega
/-- where the walk over the pairs stands -/
def FW (a b fa : Addr) (d : Nat) (ps ts : List PV) (H : Hp) (m : Nat) (σ : L2.St) (H3 : Hp) : Prop := ∃ (y4 y5 : Option V) (td : Addr) (L : List (PV × PV)) (zs : List V) (f : AL), σ = [some (.ref a), some (.ref b), some (.ref fa), some (.ref td), y4, y5, none] ∧ Same H H3 ∧ AsD H3 fa f ∧ (f.map (·.1)).Nodup ∧ GrA f ∧ H td = none ∧ H3 td = some (.lst zs) ∧ IsL H3 zs (L.map prp) ∧ POk d L ∧ FInv ps ts L f ∧ m = vszL (L.map (·.1)) ∧ f.length + m ≤ 60
theorem at1 {x : V} {l : List V} {i : Nat} {v : V} (h : l[i]? = some v) : atI (x :: l) (1 + (i : Int)) = some v := by
  rw [show 1 + (i : Int) = ((i + 1 : Nat) : Int) by omega]
  exact atI_nat (by simpa using h)
def spLFit (d : Nat) : Sp := fun vs H Q _ => ∃ (a b : Addr) (xs ys : List V) (ps ts : List PV), vs = [.ref a, .ref b] ∧ H a = some (.lst xs) ∧ H b = some (.lst ys) ∧ IsL H xs ps ∧ IsL H ys ts ∧ formL MK true ps = true ∧ ps.length = ts.length ∧ vszL ps ≤ 60 ∧ (∀ t ∈ ts, TreeG MK d t) ∧ d ≤ 150 ∧
  (∀ al f H', lfit ps ts = some al → Same H H' → (∃ al', AsD H' f al' ∧ (al'.map (·.1)).Nodup ∧ GrA al' ∧ ∀ z, get al' z = get al z) → Q (.ref f) H') ∧ (lfit ps ts = none → ∀ H', Same H H' → Q .non H')
theorem ok_law_fit {d : Nat} (T : Txt K mg)  : FnOk P w K mg base CX0 1 T.a_law_fit T.d_law_fit ["patterns", "trees"] (spLFit d) := by
  refine T.F_law_fit.ok sc_law_fit (fun vs H Q E h => ?_) (fun cdv A outer s H vs Q E hr h => ?_)
  · obtain ⟨a, b, xs, ys, ps, ts, rfl, _⟩ := h; rfl
  · obtain ⟨a, b, xs, ys, ps, ts, rfl, ea, eb, hX, hY, fp, hl, v60, tt, hd, q1, q2⟩ := h
    have hu := hu_of hr
    refine ⟨_, (pss_cons (ps_set (i := 2) sc_law_fit.nd rfl (Or.inl rfl) pe_dnewK)
    (pss_cons (ps_setLc (i := 3) (own := [("k", 6)]) (g := (gName 6)) (tt := tYes) rfl sc_law_fit.nd rfl rfl (sw_true rfl rfl rfl (by decide +kernel)) (pi_range1 (by rfl) T.z_range (pa_cons (pe_callB call_len_seq (by rfl) T.z_len (by decide +kernel) (pa_cons (pv 0) pa_nil)) pa_nil)) (blkOk_by (own := [("k", 6)]) (N := ["patterns", "trees", "found", "pairs", "pattern", "tree", "k"]) (sc := defScope s_law_fit) (by decide +kernel)) (fun _ _ _ _ _ => (pg_name (i := 6) sc_law_fit.nd rfl (Or.inl rfl))) (fun _ _ _ _ _ => pts_nil) (fun _ _ _ _ _ => (pe_tup (pa_cons (pe_ix (ixLK (K := K)) (pv 0) (pv 6) (fun _ _ => rfl)) (pa_cons (pe_ix (ixLK (K := K)) (pv 1) (pv 6) (fun _ _ => rfl)) pa_nil)))))
    (pss_cons (ps_while PassesOwn.never (pt_cmpR op_gt (pe_callB call_len_seq (by rfl) T.z_len (by decide +kernel) (pa_cons (pv 3) pa_nil)) pe_int (nomark _))
    (pss_cons (ps_asg (pe_bm0 PySem.F.plainAttrs_list PySem.F.slot_list_pop PySem.F.type_list_pop mt_pop (pv 3)) (pg_tup rfl (pgs_cons (pg_name (i := 4) sc_law_fit.nd rfl (Or.inr rfl)) (pgs_cons (pg_name (i := 5) sc_law_fit.nd rfl (Or.inr rfl)) pgs_nil))))
    (pss_one (ps_if (pt_val (pe_callB call_isi (by rfl) T.z_isinstance (by decide +kernel) (pa_cons (pv 4) (pa_cons (pe_bltn rfl T.z_str (by decide +kernel) (show RelV (V.ty "str") (Value.type "str") from rfl)) pa_nil)))) (pss_cons (ps_if (PW.pt (pw_and (pt_cmp (pc_din hu (pv 4) (pv 2))) (pw_and1 (pt_cmpR (neP (u200 hr)) (pe_dget hu (pv 2) (pv 4) (fun _ _ => rfl)) (pv 5) (nomark _))))) (pss_one (ps_ret pe_non)) pss_nil)
    (pss_one (ps_dput hu (pv 2) (pv 4) (pv 5) rfl))) (pss_one (ps_if (pt_cmpR op_ne (pe_ix ix_tup (pv 4) pe_int (fun _ _ => rfl)) (pe_ix ix_tup (pv 5) pe_int (fun _ _ => rfl)) (nomark _)) (pss_one (ps_ret pe_non)) (pss_one (ps_set (i := 3) sc_law_fit.nd rfl (Or.inl rfl) (pe_op op_cat (pv 3) (pe_lc (own := [("k", 6)]) (g := (gName 6)) (tt := tYes) rfl sc_law_fit.nd (pi_range2 (by rfl) T.z_range (pa_cons pe_int (pa_cons (pe_callB call_len_seq (by rfl) T.z_len (by decide +kernel) (pa_cons (pv 4) pa_nil)) pa_nil))) (blkOk_by (own := [("k", 6)]) (N := ["patterns", "trees", "found", "pairs", "pattern", "tree", "k"]) (sc := defScope s_law_fit) (by decide +kernel)) (fun _ _ _ _ _ => (pg_name (i := 6) sc_law_fit.nd rfl (Or.inl rfl))) (fun _ _ _ _ _ => pts_nil) (fun _ _ _ _ _ => (pe_tup (pa_cons (pe_ix (ixTK (K := K)) (pv 4) (pv 6) (fun _ _ => rfl)) (pa_cons (pe_ix (ixTK (K := K)) (pv 5) (pv 6) (fun _ _ => rfl)) pa_nil))))))))))))))
    (pss_one (ps_ret (pv 2)))))), ?_⟩
    have xl := hX.len
    have yl := hY.len
    have fpa : ∀ t ∈ ps, form MK true t = true := formL_mem fp
    have ft : formL MK true ts = true := by rw [formL_all]; exact List.all_eq_true.mpr fun t ht => (tt t ht).1
    have gt : GrL ts := by
      have ga : ∀ l : List PV, (∀ t ∈ l, Gr t) → GrL l := fun l => by
        induction l with
        | nil => exact fun _ => trivial
        | cons t r ih => exact fun h => ⟨h t (List.mem_cons_self ..), ih fun x hx => h x (List.mem_cons_of_mem _ hx)⟩
      exact ga ts fun t ht => (tt t ht).2.1
    have pl := vszL_len fpa
    refine fun fa hfa => ?_
    have s1 := same_upd hfa (.dK [])
    refine ⟨_, rfl, a, xs, rfl, .inl (SqL.of (s1 _ _ ea)), (xs.length : Int), rfl, by omega, by omega, fun D hD => ?_⟩
    have s2 := same_upd hD (.lst [])
    have nfD : fa ≠ D := ne_of_none upd_same hD
    have zl : (ps.zip ts).length = ps.length := by rw [List.length_zip]; omega
    refine lc_range (lo := 0) (n := (xs.length : Int).toNat) (fun i H2 => Same (upd H fa (.dK [])) H2 ∧ ∃ vs, H2 D = some (.lst vs) ∧ IsL H2 vs (((ps.zip ts).take i).map prp) ∧ vs.length = i) ⟨s2, [], upd_same, .nil, rfl⟩ ?_ ?_
    · intro i H2 hi ⟨sm, vs, eD, hV, vl⟩
      have hi' : i < xs.length := by simpa using hi
      obtain ⟨p, ep, ip⟩ := hX.get (List.getElem?_eq_getElem hi')
      obtain ⟨t, et, it⟩ := hY.get (List.getElem?_eq_getElem (i := i) (l := ys) (by omega))
      have m1 := s1.trans sm
      refine ⟨rfl, yes_if ⟨_, rfl, _, rfl, a, _, _, xs[i], rfl, rfl, SqL.of (m1 _ _ ea), by rw [Int.zero_add]; exact atI_nat (List.getElem?_eq_getElem hi'), _, rfl, _, rfl, b, _, _, ys[i]'(by omega), rfl, rfl, SqL.of (m1 _ _ eb), by rw [Int.zero_add]; exact atI_nat (List.getElem?_eq_getElem (by omega)), (by show 2 ≤ sizeLine; decide), fun q hq => ?_⟩⟩
      have s3 := same_upd hq (.tup [xs[i], ys[i]'(by omega)])
      refine ⟨vs, s3 _ _ eD, small1000 (by omega), Kx.Same.own (sm.trans s3) hD _, vs ++ [.ref q], upd_same, ?_, by rw [List.length_append, vl]; rfl⟩
      have hz : i < (ps.zip ts).length := by omega
      have ez : (ps.zip ts)[i] = (p, t) := by
        obtain ⟨_, e1⟩ := List.getElem?_eq_some_iff.mp ep
        obtain ⟨_, e2⟩ := List.getElem?_eq_some_iff.mp et
        rw [List.getElem_zip, e1, e2]
      rw [List.take_succ_eq_append_getElem hz, List.map_append, ez]
      exact IsL.wr (s3 _ _ eD) ((hV.same s3).append (.cons (.tup upd_same (.cons ((ip.same m1).same s3) (.cons ((it.same m1).same s3) .nil))) .nil))
    · intro H2 ⟨sm, vs, eD, hV, vl⟩
      have e0 : ((xs.length : Int)).toNat = (ps.zip ts).length := by omega
      rw [e0, List.take_length] at hV
      have m1 := s1.trans sm
      have fD : H D = none := s1.free hD
      have fF : H fa = none := hfa
      refine ⟨FW a b fa d ps ts H, ⟨_, none, none, D, ps.zip ts, vs, [], rfl, m1, ⟨[], by rw [sm fa _ upd_same], .nil⟩, List.nodup_nil, fun kv h => (by cases h), fD, eD, hV, ?_, FInv.start hl, rfl, ?_⟩, ?_⟩
      · intro pt hp
        obtain ⟨x, y⟩ := List.of_mem_zip (a := pt.1) (b := pt.2) hp
        exact ⟨fpa _ x, tt _ y⟩
      · rw [List.map_fst_zip (by omega)]
        simpa using v60
      · rintro m σ H3 ⟨y4, y5, td, L, zs, f, rfl, sm3, hA, nd, gA, ftd, etd, hZ, hP, hF, rfl, few⟩
        have zlen := hZ.len
        rw [List.length_map] at zlen
        refine ⟨_, rfl, td, zs, rfl, .inl (SqL.of etd), _, _, rfl, rfl, _, rfl, ite2 (fun cz => ?_) (fun cz => ?_)⟩
        case refine_2 =>
          have hz : zs = [] := by cases zs with | nil => rfl | cons _ _ => exact absurd (by simp) cz
          subst hz
          have hL : L = [] := List.eq_nil_of_length_eq_zero zlen.symm
          subst hL
          obtain ⟨al, e1, e2⟩ := lfit_some (mk := MK) hl fp ft gt hF
          exact ⟨_, rfl, q1 al fa H3 e1 sm3 ⟨f, hA, nd, gA, e2⟩⟩
        have hne : zs ≠ [] := by intro e; rw [e] at cz; cases cz
        have hlast : zs[zs.length - 1]? = some (zs.getLast hne) := by rw [List.getLast_eq_getElem, List.getElem?_eq_getElem]
        obtain ⟨L', pt, rfl⟩ : ∃ L' pt, L = L' ++ [pt] := by
          rcases List.eq_nil_or_concat L with e | ⟨a, b, e⟩
          · rw [e] at zlen; exact absurd (List.eq_nil_of_length_eq_zero zlen) hne
          · exact ⟨a, b, by simpa using e⟩
        obtain ⟨ts', y, ey, iy, hZ'⟩ := hZ.snoc_inv hlast hne
        rw [List.map_append] at ey
        obtain ⟨e1, e2⟩ := List.append_inj' ey rfl
        subst e1
        have e3 : prp pt = y := by simpa using e2
        subst e3
        clear e2
        generalize zs.getLast hne = zv at hlast iy
        obtain ⟨p, t⟩ := pt
        obtain ⟨qa, qvs, rfl, eqa, qL⟩ := iy.tup_inv
        cases qL with
        | @cons pv_ _ _ _ ip qL =>
        cases qL with
        | @cons tv _ _ _ it qL =>
        cases qL
        obtain ⟨fP, tT⟩ := hP (p, t) (List.mem_append_right _ (List.mem_singleton.mpr rfl))
        have hP' : POk d L' := fun x hx => hP x (List.mem_append_left _ hx)
        have em : vszL ((L' ++ [(p, t)]).map (·.1)) = vszL (L'.map (·.1)) + vsz p := by rw [List.map_append, vszL_append]; simp [vszL]
        rw [em] at few ⊢
        have vp := vsz_pos fP
        refine ⟨_, fun σ' H' h => h, _, rfl, .inl ⟨rfl, _, SqL.of etd⟩, td, zs, _, rfl, rfl, etd, hlast, ?_⟩
        have fw : ∀ b o, H3 b = some o → b ≠ td → (upd H3 td (.lst zs.dropLast)) b = some o := fun b o e n => by rw [upd_ne n]; exact e
        have ntf : fa ≠ td := fun z => by obtain ⟨_, e, _⟩ := hA; rw [z, etd] at e; cases e
        have sm4 : Same H (upd H3 td (.lst zs.dropLast)) := Kx.Same.own sm3 ftd _
        have etd4 : (upd H3 td (.lst zs.dropLast)) td = some (.lst zs.dropLast) := upd_same
        have hA4 := hA.tk (H' := upd H3 td (.lst zs.dropLast)) gA (fun a vs e => fw _ _ e fun z => by rw [z, etd] at e; cases e) fun kvs e => fw _ _ e ntf
        have ip4 := ip.wr (ys := zs.dropLast) etd
        have it4 := it.wr (ys := zs.dropLast) etd
        have hZ4 := IsL.wr (ys := zs.dropLast) etd hZ'
        have eqa4 := fw _ _ eqa fun z => by rw [z, etd] at eqa; cases eqa
        generalize hH4 : upd H3 td (.lst zs.dropLast) = H4 at *
        refine ⟨qa, _, rfl, .inl (.inl eqa4), rfl, _, _, rfl, _, _, rfl, rfl, ?_⟩
        obtain ⟨u, ty, kt⟩ := ip4.ty (K := K)
        refine ⟨_, rfl, _, _, u, _, _, rfl, .ty _, ty, kit_str kt, _, rfl, ite2 (fun c => ?_) (fun c => ?_)⟩
        · cases p with
          | oth => cases c
          | tup ts => cases c
          | str z =>
          cases ip4.str_inv
          obtain ⟨kvs, eK, pp⟩ := id hA4
          have ht := tT.2.1
          have tn := tm_no (gr_tm ht)
          have dt : dep t ≤ 150 := Nat.le_trans tT.2.2 hd
          have kl := pair_len pp
          have s60 : kvs.length < sizeLine := small1000 (by omega)
          have tkeep : ∀ a vs, H4 a = some (.tup vs) → (upd H4 fa (.dK (putK kvs (Sum.inr z) tv))) a = some (.tup vs) := fun a vs ea => by rw [upd_ne fun q => by rw [q, eK] at ea; cases ea]; exact ea
          have done : ∀ f', AsD (upd H4 fa (.dK (putK kvs (Sum.inr z) tv))) fa f' → (f'.map (·.1)).Nodup → GrA f' → FInv ps ts L' f' → f'.length ≤ f.length + 1 →
              ∃ m', m' < vszL (L'.map (·.1)) + vsz (.str z) ∧ FW a b fa d ps ts H m' [some (.ref a), some (.ref b), some (.ref fa), some (.ref td), some (.str z), some tv, none] (upd H4 fa (.dK (putK kvs (Sum.inr z) tv))) := fun f' h1 h2 h3 h4 h5 =>
            ⟨_, by simp only [vsz]; omega, _, _, td, L', zs.dropLast, f', rfl, Kx.Same.own sm4 hfa _, h1, h2, h3, ftd, by rw [upd_ne ntf.symm]; exact etd4, IsL.tk tkeep hP'.no hZ4, hP', h4, rfl, by simp only [vsz] at few; omega⟩
          refine ⟨_, rfl, _, rfl, fa, _, rfl, DGet.k (k := Sum.inr z) eK, ?_⟩
          rcases pair_val z pp with ⟨e1, e2⟩ | ⟨v, t2, e1, e2, iv⟩
          · rw [e1]
            refine ⟨_, rfl, iteF (iteF ?_)⟩
            refine ⟨_, rfl, _, rfl, _, rfl, fa, _, rfl, DPut.k (k := Sum.inr z) eK s60, ?_⟩
            refine done (f ++ [(z, t)]) ?_ ?_ ?_ (hF.new ht e2) (by simp)
            · refine ⟨_, upd_same, ?_⟩
              rw [putK_new _ e1]
              rw [putK_new _ e1] at tkeep
              exact pair_snoc (Paired.both pp fun zt hz _ ⟨q, y⟩ => ⟨q, Is.tk tkeep (tm_no (gr_tm (gA zt hz).1)) y⟩) ⟨rfl, Is.tk tkeep tn it4⟩
            · rw [List.map_append]
              refine List.nodup_append.mpr ⟨nd, by simp, fun x hx y hy q => ?_⟩
              have : y = z := by simpa using hy
              subst this
              subst q
              obtain ⟨kv, hk, ek⟩ := List.mem_map.mp hx
              have g2 : get f kv.1 = some kv.2 := (get_mem nd).mp hk
              rw [ek, e2] at g2
              cases g2
            · intro kv hk
              rcases List.mem_append.mp hk with q | q
              · exact gA kv q
              · rw [List.mem_singleton.mp q]; exact ⟨ht, dt⟩
          · rw [e1]
            have g2 : (z, t2) ∈ f := (get_mem nd).mpr e2
            have gt2 := gA _ g2
            have iv2 : DtIs H4 v (some t2) := ⟨iv, tm_no (gr_tm gt2.1), gt2.2⟩
            have it2 : DtIs H4 tv (some t) := ⟨it4, tn, dt⟩
            refine ⟨_, rfl, iteT ⟨_, rfl, _, rfl, fa, v, rfl, e1 ▸ DGet.k (k := Sum.inr z) eK, _, rfl, rNe_dt iv2 it2 ⟨_, rfl, ite2 (fun c => ?_) (fun c => ?_)⟩⟩⟩
            · refine q2 (lfit_none (mk := MK) hl fp ft fun g eg => ?_) _ sm4
              obtain ⟨le, all⟩ := (hF g).mp eg
              have g3 := (psub_str ht).mp (all (.str z, t) (List.mem_append_right _ (List.mem_singleton.mpr rfl)))
              rw [le z t2 e2] at g3
              rw [g3] at c
              simp at c
            · have et : t2 = t := by simpa using c
              subst et
              refine ⟨_, rfl, _, rfl, _, rfl, fa, _, rfl, DPut.k (k := Sum.inr z) eK s60, ?_⟩
              exact done f (AsD.re gA nd ht eK pp e2 it4) nd gA (hF.name ht e2) (by omega)
        · obtain ⟨pa, w1, pvs, pts, rfl, rfl, epa, pL, k1, lk1, l21, fW1⟩ := form_inv mk_ar ip4 fP (Bool.eq_false_iff.mpr c)
          obtain ⟨w2, r2, rfl, gr2⟩ := gr_inv tT.2.1
          obtain ⟨ta, w2', tvs, tts, rfl, et, eta, tL, k2, lk2, l22, fW2⟩ := form_inv mk_ar it4 tT.1 rfl
          cases et
          refine ⟨_, rfl, pa, _, _, _, rfl, rfl, .inl (.inl epa), atI_nat (j := 0) rfl, _, rfl, ta, _, _, _, rfl, rfl, .inl (.inl eta), atI_nat (j := 0) rfl, rfl, _, rfl, ite2 (fun cw => ?_) (fun cw => ?_)⟩
          · refine q2 (lfit_none (mk := MK) hl fp ft fun g eg => ?_) _ sm4
            obtain ⟨le, all⟩ := (hF g).mp eg
            have g3 := all (.tup (.str w1 :: pts), .tup (.str w2 :: r2)) (List.mem_append_right _ (List.mem_singleton.mpr rfl))
            simp only [psub, PV.tup.injEq, List.cons.injEq, PV.str.injEq] at g3
            rw [g3.1] at cw
            simp at cw
          · have ew : w1 = w2 := by simpa using cw
            subst ew
            have el : pts.length = r2.length := by
              rw [lk1] at lk2
              have := Option.some.inj lk2
              omega
            have pvl := pL.len
            have tvl := tL.len
            refine ⟨_, rfl, _, rfl, pa, _, rfl, .inr (.inl (.inl epa)), ?_⟩
            refine ⟨1, ((pvs.length + 1 : Nat) : Int), rfl, ⟨by decide, by decide, by omega, by omega⟩, fun D2 hD2 => ?_⟩
            have nTD : td ≠ D2 := ne_of_none etd4 hD2
            have zl2 : (pts.zip r2).length = pts.length := by rw [List.length_zip]; omega
            refine lc_range (lo := 1) (n := (((pvs.length + 1 : Nat) : Int) - 1).toNat) (fun i H5 => Same H4 H5 ∧ ∃ vs, H5 D2 = some (.lst vs) ∧ IsL H5 vs (((pts.zip r2).take i).map prp) ∧ vs.length = i) ⟨same_upd hD2 _, [], upd_same, .nil, rfl⟩ ?_ ?_
            · intro i H5 hi ⟨s5, vs, eD, hV, vl⟩
              have hi' : i < pvs.length := by omega
              obtain ⟨p, ep, ip⟩ := pL.get (List.getElem?_eq_getElem hi')
              obtain ⟨t, et, it⟩ := tL.get (List.getElem?_eq_getElem (i := i) (l := tvs) (by omega))
              refine ⟨rfl, yes_if ⟨_, rfl, _, rfl, pa, _, _, pvs[i], rfl, rfl, .inl (.inl (s5 _ _ epa)), at1 (List.getElem?_eq_getElem hi'), _, rfl, _, rfl, ta, _, _, tvs[i]'(by omega), rfl, rfl, .inl (.inl (s5 _ _ eta)), at1 (List.getElem?_eq_getElem (by omega)), (by show 2 ≤ sizeLine; decide), fun q hq => ?_⟩⟩
              have s6 := same_upd hq (.tup [pvs[i], tvs[i]'(by omega)])
              refine ⟨vs, s6 _ _ eD, small1000 (by omega), Kx.Same.own (s5.trans s6) hD2 _, vs ++ [.ref q], upd_same, ?_, by rw [List.length_append, vl]; rfl⟩
              have hz : i < (pts.zip r2).length := by omega
              have ez : (pts.zip r2)[i] = (p, t) := by
                obtain ⟨_, e1⟩ := List.getElem?_eq_some_iff.mp ep
                obtain ⟨_, e2⟩ := List.getElem?_eq_some_iff.mp et
                rw [List.getElem_zip, e1, e2]
              rw [List.take_succ_eq_append_getElem hz, List.map_append, ez]
              exact IsL.wr (s6 _ _ eD) ((hV.same s6).append (.cons (.tup upd_same (.cons ((ip.same s5).same s6) (.cons ((it.same s5).same s6) .nil))) .nil))
            · intro H5 ⟨s5, vs, eD, hV, vl⟩
              have e0 : (((pvs.length + 1 : Nat) : Int) - 1).toNat = (pts.zip r2).length := by omega
              rw [e0, List.take_length] at hV
              have vl2 := hV.len
              rw [List.length_map] at vl2
              have zd : zs.dropLast.length ≤ 60 := by
                rw [hZ4.len, List.length_map]
                have h1 : (L'.map (·.1)).length ≤ vszL (L'.map (·.1)) := vszL_len (mk := MK) fun t ht => by
                  obtain ⟨pt, hp, rfl⟩ := List.mem_map.mp ht
                  exact (hP' pt hp).1
                rw [List.length_map] at h1
                omega
              have p60 : pts.length ≤ vszL pts := vszL_len (mk := MK) (formL_mem fW1)
              simp only [vsz] at few
              refine ⟨td, D2, zs.dropLast, vs, rfl, rfl, s5 _ _ etd4, eD, Nat.le_of_lt (small1000 (by omega)), fun q hq => ?_⟩
              have s6 := same_upd hq (.lst (zs.dropLast ++ vs))
              have s46 := s5.trans s6
              have em2 : vszL ((L' ++ pts.zip r2).map (·.1)) = vszL (L'.map (·.1)) + vszL pts := by
                rw [List.map_append, vszL_append, List.map_fst_zip (by omega)]
              refine ⟨_, ?_, _, _, q, L' ++ pts.zip r2, _, f, rfl, sm4.trans s46, hA4.same s46, nd, gA, (sm4.trans s5).free hq, upd_same, ?_, ?_, hF.parts el, rfl, ?_⟩
              · rw [em2]; simp only [vsz]; omega
              · rw [List.map_append]
                exact (hZ4.same s46).append (hV.same s6)
              · intro pt hp
                rcases List.mem_append.mp hp with h | h
                · exact hP' pt h
                · obtain ⟨x, y⟩ := List.of_mem_zip (a := pt.1) (b := pt.2) h
                  exact ⟨formL_mem fW1 _ x, TreeG.down _ _ tT _ y⟩
              · rw [em2]; omega
end
end Kx
namespace Kx
open PySem PySem.Spec PyProof.Rows L2
section
variable {P : Program} {w : World} {K : PySem.W.Frag} {mg : Str → Option Value} {base : Heap}
/-! ### _law_index -/
def isNn : Value → Bool
  | .none => true
  | _ => false
def rNin (neg : Bool) : R2 := fun x y H Q => ∃ (p : Addr) (xs : List V) (ks : List (Option (Str × PV))), x = .non ∧ y = .ref p ∧ H p = some (.lst xs) ∧ KindL H xs ks ∧ (∀ k ∈ ks, ∀ z, k = some z → NoO z.2) ∧ Q (.bl (if neg then !(ks.any (·.isNone)) else ks.any (·.isNone))) H
theorem nin_items {X : Cx} {pins : List (Addr × Obj)} {σ : L2.St} {H : Hp} {s : Shared} (I : Inv X pins σ H s) {A : Around} (hu : A.units + 150 < cLine) : ∀ {xs : List V} {ks : List (Option (Str × PV))} {us : List Value}, KindL H xs ks → (∀ k ∈ ks, ∀ z, k = some z → NoO z.2) → Vals xs us →
    us.any isNn = ks.any (·.isNone) ∧ ∀ y ∈ us, SeqAt.EqAt A s y .none (isNn y)
  | _, _, _, .nil, _, .nil => ⟨rfl, fun y h => by cases h⟩
  | _, _, _, .cons (v := v) (k := k) h t, n, .cons (b := u) r r2 => by
    obtain ⟨e, q⟩ := nin_items I hu t (fun k hk => n k (List.mem_cons_of_mem _ hk)) r2
    cases k with
    | none =>
      rw [show v = V.non from h] at r
      cases r
      refine ⟨by simp [isNn], fun y hy => ?_⟩
      rcases List.mem_cons.mp hy with rfl | hy
      · exact SeqAt.EqAt.same _
      · exact q y hy
    | some z =>
      have hz : Is H v (.tup [.str z.1, z.2]) := h
      have no : NoO (.tup [.str z.1, z.2]) := ⟨trivial, n _ (List.mem_cons_self ..) z rfl, trivial⟩
      obtain ⟨a, vs, rfl, _, _⟩ := id hz.tup_inv
      cases r
      refine ⟨by simp [isNn, e], fun y hy => ?_⟩
      rcases List.mem_cons.mp hy with rfl | hy
      · obtain ⟨as, r1⟩ := Dp.reads I _ _ _ (Is.dp (K := X.K) no hz) (rfl : RelV (.ref a) (.ref a))
        have d0 : min (toD (.tup [.str z.1, z.2])).depth (PyData.none).depth = 0 := by simp [PyData.depth]
        have z0 := SeqAt.eqAt_reads _ .none A s (.ref a) .none as [] r1 Reads.none hz.lay rfl (by rw [d0]; omega)
        simpa [toD, PyData.eqv, isNn] using z0
      · exact q y hy
end
end Kx
/-! Comprehensions over a tuple or a list, item by item. -/
namespace Kx
open PySem PySem.Spec PyProof.Rows L2
/-- what a heap behind keeps -/
structure Ord (G : Hp → Hp → Prop) : Prop where
  refl : ∀ H, G H H
  trans : ∀ {H H1 H2}, G H H1 → G H1 H2 → G H H2
  of : ∀ {H H1}, Same H H1 → G H H1
  lst : ∀ {H H1 l xs}, G H H1 → H l = none → H1 l = some (.lst xs) → ∀ ys, G H (upd H1 l (.lst ys))
  tup : ∀ {H H1 b vs}, G H H1 → H b = some (.tup vs) → H1 b = some (.tup vs)
  li : ∀ {H H1 b vs}, G H H1 → H b = some (.lst vs) → H1 b = some (.lst vs)
theorem ordS : Ord Same := ⟨.refl, fun a b => a.trans b, id, fun s n e ys => Kx.Same.own s n _, fun s e => s _ _ e, fun s e => s _ _ e⟩
theorem ordX (TT : List (Addr × Str)) : Ord (Sx TT) := ⟨.refl TT, fun a b => a.trans b, .of, fun s n e ys => s.lst n e ys, fun s e => s.tup e, fun s e => s.li e⟩
theorem Paired.get {α β : Type} {F : α → β → Prop} : ∀ {l : List α} {m : List β}, Paired F l m → ∀ {i : Nat} {x : α}, l[i]? = some x → ∃ y, m[i]? = some y ∧ F x y
  | _, _, .nil, i, x, h => by simp at h
  | _, _, .cons h _, 0, x, e => by cases (Option.some.inj e); exact ⟨_, rfl, h⟩
  | _, _, .cons _ r, i + 1, x, e => Paired.get r (by simpa using e)
section
variable {α : Type} {G : Hp → Hp → Prop} {K : PySem.W.Frag} {a D : Addr} {xs : List V} {ys : List α} {g : TG} {tt : TT} {te : TE} {vs : List Nat} {σ : L2.St} {H1 : Hp} {Qd : Hp → Prop}
theorem lc_pick (O : Ord G) (Sq : Hp → Prop) (f : α → Bool) (R S : Hp → V → α → Prop) (hR : Paired (R H1) xs ys) (sR : ∀ {H H' v y}, G H H' → R H v y → R H' v y) (sS : ∀ {H H' v y}, G H H' → S H v y → S H' v y)
    (wS : ∀ {H l zs zs' v y}, H l = some (.lst zs) → S H v y → S (upd H l (.lst zs')) v y) (hD : H1 D = none) (few : ys.length ≤ 1000)
    (step : ∀ (x : V) (y : α) (H9 : Hp) (Q' : VK) (Z : Hp → Prop), R H9 x y → y ∈ ys → G H1 H9 → (f y = true → ∀ v H10, G H9 H10 → S H10 v y → Q' v H10) → (f y = false → ∀ H10, G H9 H10 → Z H10) → g x (wipe σ vs) H9 fun σ2 H2 => wipe σ2 vs = wipe σ vs ∧ tt σ2 H2 fun b H3 => if b = true then te σ2 H3 Q' else Z H3) :
    ∃ Pv : Nat → Hp → Prop, Pv 0 (upd H1 D (.lst [])) ∧ (∀ i H, Pv i H → G H1 H) ∧
      (∀ i x H, xs[i]? = some x → Pv i H → g x (wipe σ vs) H fun σ2 H2 => wipe σ2 vs = wipe σ vs ∧ tt σ2 H2 fun b H3 => if b = true then te σ2 H3 fun y H4 => ∃ acc, H4 D = some (.lst acc) ∧ acc.length < sizeLine ∧ Pv (i + 1) (upd H4 D (.lst (acc ++ [y]))) else Pv (i + 1) H3) ∧
      (∀ H, Pv xs.length H → ∃ ws, G H1 H ∧ H D = some (.lst ws) ∧ Paired (S H) ws (ys.filter f)) := by
  have hl := pair_len hR
  refine ⟨fun i H => G H1 H ∧ ∃ ws, H D = some (.lst ws) ∧ Paired (S H) ws ((ys.take i).filter f), ⟨O.of (same_upd hD _), [], upd_same, .nil⟩, fun i H h => h.1, fun i x H hx ⟨s, ws, eD, pp⟩ => ?_, fun H ⟨s, ws, eD, pp⟩ => ⟨ws, s, eD, ?_⟩⟩
  · obtain ⟨y, ey, ry⟩ := Paired.get hR hx
    obtain ⟨hi, ey2⟩ := List.getElem?_eq_some_iff.mp ey
    have tk : (ys.take (i + 1)).filter f = (ys.take i).filter f ++ (if f y = true then [y] else []) := by
      rw [List.take_succ_eq_append_getElem hi, ey2, List.filter_append]
      by_cases c : f y = true
      · rw [if_pos c, List.filter_cons, if_pos c, List.filter_nil]
      · rw [if_neg c, List.filter_cons, if_neg c, List.filter_nil]
    refine step x y H _ _ (sR s ry) (List.mem_of_getElem? ey) s (fun c v H10 s2 hv => ⟨ws, O.li s2 eD, ?_, O.lst (O.trans s s2) hD (O.li s2 eD) _, ws ++ [v], upd_same, ?_⟩) (fun c H10 s2 => ⟨O.trans s s2, ws, O.li s2 eD, ?_⟩)
    · have := pair_len pp
      have := List.length_filter_le f (ys.take i)
      rw [List.length_take] at this
      exact small1000 (by omega)
    · rw [tk, if_pos c]
      exact pair_snoc (Paired.imp pp fun v y h => wS (O.li s2 eD) (sS s2 h)) (wS (O.li s2 eD) hv)
    · rw [tk, if_neg (by rw [c]; exact Bool.false_ne_true), List.append_nil]
      exact Paired.imp pp fun v y h => sS s2 h
  · rw [hl, List.take_length] at pp
    exact pp
/-- over a tuple -/
theorem lc_pickT (O : Ord G) (f : α → Bool) (R S : Hp → V → α → Prop) (hsrc : ∀ H', G H1 H' → SqT K H' a xs) (hR : Paired (R H1) xs ys) (sR : ∀ {H H' v y}, G H H' → R H v y → R H' v y) (sS : ∀ {H H' v y}, G H H' → S H v y → S H' v y)
    (wS : ∀ {H l zs zs' v y}, H l = some (.lst zs) → S H v y → S (upd H l (.lst zs')) v y) (hD : H1 D = none) (few : ys.length ≤ 1000)
    (step : ∀ (x : V) (y : α) (H9 : Hp) (Q' : VK) (Z : Hp → Prop), R H9 x y → y ∈ ys → G H1 H9 → (f y = true → ∀ v H10, G H9 H10 → S H10 v y → Q' v H10) → (f y = false → ∀ H10, G H9 H10 → Z H10) → g x (wipe σ vs) H9 fun σ2 H2 => wipe σ2 vs = wipe σ vs ∧ tt σ2 H2 fun b H3 => if b = true then te σ2 H3 Q' else Z H3)
    (hd : ∀ H ws, G H1 H → H D = some (.lst ws) → Paired (S H) ws (ys.filter f) → Qd H) :
    ∃ W : Nat → Nat → Hp → Prop, (∃ m, W 0 m (upd H1 D (.lst []))) ∧ ∀ i m H, W i m H →
      ((Itt K a).stop i H ∧ Qd H) ∨ ((Itt K a).go i H ∧ ∃ Nx : Hp → Prop, (∀ H', Nx H' → ∃ m', m' < m ∧ W (i + 1) m' H') ∧ ∀ x H', (Itt K a).yld i H x H' → g x (wipe σ vs) H' fun σ2 H2 => wipe σ2 vs = wipe σ vs ∧ tt σ2 H2 fun b H3 =>
        if b = true then te σ2 H3 fun y H4 => ∃ acc, H4 D = some (.lst acc) ∧ acc.length < sizeLine ∧ Nx (upd H4 D (.lst (acc ++ [y]))) else Nx H3) := by
  obtain ⟨Pv, h0, h1, h2, h3⟩ := lc_pick (tt := tt) (te := te) (g := g) (vs := vs) (σ := σ) (D := D) O (fun _ => True) f R S hR sR sS wS hD few step
  exact lc_tup (K := K) (a := a) (xs := xs) Pv h0 (fun i H _ p => hsrc H (h1 i H p)) h2 fun H p => by obtain ⟨ws, x, y, z⟩ := h3 H p; exact hd H ws x y z
/-- over a list -/
theorem lc_pickL (O : Ord G) (f : α → Bool) (R S : Hp → V → α → Prop) (hsrc : ∀ H', G H1 H' → SqL K H' a xs) (hR : Paired (R H1) xs ys) (sR : ∀ {H H' v y}, G H H' → R H v y → R H' v y) (sS : ∀ {H H' v y}, G H H' → S H v y → S H' v y)
    (wS : ∀ {H l zs zs' v y}, H l = some (.lst zs) → S H v y → S (upd H l (.lst zs')) v y) (hD : H1 D = none) (few : ys.length ≤ 1000)
    (step : ∀ (x : V) (y : α) (H9 : Hp) (Q' : VK) (Z : Hp → Prop), R H9 x y → y ∈ ys → G H1 H9 → (f y = true → ∀ v H10, G H9 H10 → S H10 v y → Q' v H10) → (f y = false → ∀ H10, G H9 H10 → Z H10) → g x (wipe σ vs) H9 fun σ2 H2 => wipe σ2 vs = wipe σ vs ∧ tt σ2 H2 fun b H3 => if b = true then te σ2 H3 Q' else Z H3)
    (hd : ∀ H ws, G H1 H → H D = some (.lst ws) → Paired (S H) ws (ys.filter f) → Qd H) :
    ∃ W : Nat → Nat → Hp → Prop, (∃ m, W 0 m (upd H1 D (.lst []))) ∧ ∀ i m H, W i m H →
      ((Itl K a).stop i H ∧ Qd H) ∨ ((Itl K a).go i H ∧ ∃ Nx : Hp → Prop, (∀ H', Nx H' → ∃ m', m' < m ∧ W (i + 1) m' H') ∧ ∀ x H', (Itl K a).yld i H x H' → g x (wipe σ vs) H' fun σ2 H2 => wipe σ2 vs = wipe σ vs ∧ tt σ2 H2 fun b H3 =>
        if b = true then te σ2 H3 fun y H4 => ∃ acc, H4 D = some (.lst acc) ∧ acc.length < sizeLine ∧ Nx (upd H4 D (.lst (acc ++ [y]))) else Nx H3) := by
  obtain ⟨Pv, h0, h1, h2, h3⟩ := lc_pick (tt := tt) (te := te) (g := g) (vs := vs) (σ := σ) (D := D) O (fun _ => True) f R S hR sR sS wS hD few step
  exact lc_list (K := K) (a := a) (xs := xs) Pv h0 (fun i H _ p => hsrc H (h1 i H p)) h2 fun H p => by obtain ⟨ws, x, y, z⟩ := h3 H p; exact hd H ws x y z
end
/-! ### pairs and their parts -/
theorem isL_pair {H : Hp} {α : Type} {F : α → PV} : ∀ {vs : List V} {ys : List α}, IsL H vs (ys.map F) → Paired (fun v y => Is H v (F y)) vs ys
  | _, [], .nil => .nil
  | _, _ :: _, .cons h t => .cons h (isL_pair t)
theorem pair_isL {H : Hp} {α : Type} {F : α → PV} : ∀ {vs : List V} {ys : List α}, Paired (fun v y => Is H v (F y)) vs ys → IsL H vs (ys.map F)
  | _, _, .nil => .nil
  | _, _, .cons h t => .cons h (pair_isL t)
theorem pair_strs {α : Type} {F : α → Str} : ∀ {vs : List V} {ys : List α}, Paired (fun v y => v = V.str (F y)) vs ys → vs = (ys.map F).map V.str
  | _, _, .nil => rfl
  | _, _, .cons h t => by rw [h, pair_strs t]; rfl
theorem filt_all {α : Type} (l : List α) : l.filter (fun _ => true) = l := by simp
theorem pr_inv {H : Hp} {v : V} {p : Str × PV} (h : Is H v (prPV p)) : ∃ xa tv, v = .ref xa ∧ H xa = some (.tup [.str p.1, tv]) ∧ Is H tv p.2 ∧ sok p.1 = true := by
  obtain ⟨xa, xvs, rfl, ex, ixL⟩ := h.tup_inv
  cases ixL with
  | @cons fv _ _ _ ifv ixL =>
  cases ixL with
  | @cons tv _ _ _ itv ixL =>
  cases ixL
  have e := ifv.str_inv
  subst e
  cases ifv with
  | str _ k => exact ⟨xa, tv, rfl, ex, itv, k⟩
end Kx
namespace Kx
open PySem PySem.Spec PyProof.Rows L2
section
variable {P : Program} {w : World} {K : PySem.W.Frag} {mg : Str → Option Value} {base : Heap}
/-! ### _law_index -/
theorem noneIn {X : Cx} (hu : X.A.units + 200 < cLine) : OpR X (compareOp .In) (rNin false) := by
  intro pins s σ H x y v u Q I rx ry h
  obtain ⟨p, xs, ks, rfl, rfl, e, hK, no, q⟩ := h
  cases rx
  cases ry
  obtain ⟨its, r, pl, hz⟩ := I.list (SqL.of e)
  obtain ⟨e1, e2⟩ := nin_items I (A := X.A.in1) (by show X.A.units + 1 + 150 < cLine; omega) hK no r
  refine SeqAt.in_listAt isNn pl.isList (fun w hw => e2 w (by simpa using hw)) ⟨.bl _, H, I, rfl, ?_⟩
  rw [show its.toArray.any isNn = its.any isNn by simp, e1]
  exact q
theorem noneNotIn {X : Cx} (hu : X.A.units + 200 < cLine) : OpR X (compareOp .NotIn) (rNin true) := by
  intro pins s σ H x y v u Q I rx ry h
  obtain ⟨p, xs, ks, rfl, rfl, e, hK, no, q⟩ := h
  cases rx
  cases ry
  obtain ⟨its, r, pl, hz⟩ := I.list (SqL.of e)
  obtain ⟨e1, e2⟩ := nin_items I (A := X.A.in1) (by show X.A.units + 1 + 150 < cLine; omega) hK no r
  refine SeqAt.notIn_listAt isNn pl.isList (fun w hw => e2 w (by simpa using hw)) ⟨.bl _, H, I, rfl, ?_⟩
  rw [show its.toArray.any isNn = its.any isNn by simp, e1]
  exact q
theorem goodK_fam : ∀ {ps : List (Str × PV)} {kk : List (Str × PV)}, ps.length = kk.length → goodK ps (kk.map some) = decide (kk.map (·.1) = ps.map (·.1))
  | [], [], _ => by simp [goodK]
  | p :: ps, k :: kk, h => by
    have ih := goodK_fam (ps := ps) (kk := kk) (by simpa using h)
    simp only [List.map_cons, goodK, ih, List.cons.injEq]
    by_cases e : p.1 = k.1
    · by_cases e2 : kk.map (·.1) = ps.map (·.1) <;> simp [e, e2]
    · have e3 : ¬ k.1 = p.1 := fun q => e q.symm
      simp [e, e3]
theorem all_some {α : Type} : ∀ {ks : List (Option α)}, (ks.any (·.isNone)) = false → ∃ kk : List α, ks = kk.map some
  | [], _ => ⟨[], rfl⟩
  | none :: r, h => by simp at h
  | some k :: r, h => by
    obtain ⟨kk, e⟩ := all_some (ks := r) (by simpa using h)
    exact ⟨k :: kk, by rw [e]; rfl⟩
theorem kindL_pr {H : Hp} : ∀ {vs : List V} {kk : List (Str × PV)}, KindL H vs (kk.map some) → IsL H vs (kk.map prPV)
  | _, [], .nil => .nil
  | _, _ :: _, .cons h t => .cons h (kindL_pr t)
theorem pair_kindL {H : Hp} {α : Type} {F : α → Option (Str × PV)} : ∀ {vs : List V} {ys : List α}, Paired (fun v y => KindIs H v (F y)) vs ys → KindL H vs (ys.map F)
  | _, _, .nil => .nil
  | _, _, .cons h t => .cons h (pair_kindL t)
theorem treeK_some (kk : List (Str × PV)) : (kk.map some).map treeK = kk.map (·.2) := by simp [treeK]
theorem ps_vsz {ps : List (Str × PV)} (h : ∀ p ∈ ps, form MK true p.2 = true ∧ dep p.2 ≤ 3) (l : ps.length ≤ 3) : formL MK true (ps.map (·.2)) = true ∧ vszL (ps.map (·.2)) ≤ 60 := by
  have fa : formL MK true (ps.map (·.2)) = true := by
    rw [formL_all]
    exact List.all_eq_true.mpr fun t ht => by obtain ⟨p, hp, rfl⟩ := List.mem_map.mp ht; exact (h p hp).1
  refine ⟨fa, ?_⟩
  have a := vszL_le mk_ar _ fa
  have d : depL (ps.map (·.2)) ≤ 3 := depL_le fun t ht => by obtain ⟨p, hp, rfl⟩ := List.mem_map.mp ht; exact (h p hp).2
  have l2 : (ps.map (·.2)).length ≤ 3 := by rw [List.length_map]; exact l
  have := Nat.mul_le_mul l2 (Nat.pow_le_pow_right (by decide : 0 < 2) d)
  omega
theorem filt_one {cs : List Con} (nd : (cs.map (·.w)).Nodup) {w : Str} {c : Con} (h : cs.find? (fun c => c.w == w) = some c) : cs.filter (fun c => c.w == w) = [c] := by
  induction cs with
  | nil => cases h
  | cons x r ih =>
    simp only [List.map_cons, List.nodup_cons] at nd
    by_cases e : x.w = w
    · have e1 : (x.w == w) = true := beq_iff_eq.mpr e
      simp only [List.find?_cons, e1] at h
      have h2 : x = c := Option.some.inj h
      subst h2
      have : r.filter (fun c => c.w == w) = [] := List.filter_eq_nil_iff.mpr fun y hy q => nd.1 (by
        have : y.w = w := beq_iff_eq.mp q
        rw [e, ← this]
        exact List.mem_map.mpr ⟨y, hy, rfl⟩)
      rw [List.filter_cons, if_pos e1, this]
    · have e1 : (x.w == w) = false := beq_eq_false_iff_ne.mpr e
      simp only [List.find?_cons, e1] at h
      rw [List.filter_cons, if_neg (by rw [e1]; exact Bool.false_ne_true)]
      exact ih nd.2 h
theorem words_nd {F : List Str} {cs : List Con} (G : TabG F cs) : (cs.map (·.w)).Nodup := by
  have := cnts_nd G
  rwa [cnts, List.map_map] at this
theorem tab_inv {H : Hp} {v : V} {mk : List PV} {F : List Str} {cs : List Con} (h : Is H v (tabPV mk F cs)) : ∃ a v0 v1 fa ca fvs cvs, v = .ref a ∧ H a = some (.tup [v0, v1, .ref fa, .ref ca]) ∧ H fa = some (.tup fvs) ∧ IsL H fvs (F.map PV.str) ∧ H ca = some (.tup cvs) ∧ IsL H cvs (cs.map conPV) := by
  obtain ⟨a, vs, rfl, ea, hL⟩ := h.tup_inv
  cases hL with
  | @cons v0 _ _ _ i0 hL =>
  cases hL with
  | @cons v1 _ _ _ i1 hL =>
  cases hL with
  | @cons v2 _ _ _ i2 hL =>
  cases hL with
  | @cons v3 _ _ _ i3 hL =>
  cases hL
  obtain ⟨fa, fvs, rfl, ef, fL⟩ := i2.tup_inv
  obtain ⟨ca, cvs, rfl, ec, cL⟩ := i3.tup_inv
  exact ⟨a, v0, v1, fa, ca, fvs, cvs, rfl, ea, ef, fL, ec, cL⟩
theorem con_inv {H : Hp} {v : V} {c : Con} (h : Is H v (conPV c)) : ∃ a pa iv pvs, v = .ref a ∧ H a = some (.tup [.str c.w, .ref pa, .str c.fam, iv]) ∧ H pa = some (.tup pvs) ∧ IsL H pvs (c.ps.map prPV) ∧ Is H iv c.ix ∧ sok c.w = true ∧ sok c.fam = true := by
  obtain ⟨a, vs, rfl, ea, hL⟩ := h.tup_inv
  cases hL with
  | @cons v0 _ _ _ i0 hL =>
  cases hL with
  | @cons v1 _ _ _ i1 hL =>
  cases hL with
  | @cons v2 _ _ _ i2 hL =>
  cases hL with
  | @cons v3 _ _ _ i3 hL =>
  cases hL
  obtain ⟨pa, pvs, rfl, ep, pL⟩ := i1.tup_inv
  have e0 := i0.str_inv
  have e2 := i2.str_inv
  subst e0
  subst e2
  cases i0 with
  | str _ k0 =>
  cases i2 with
  | str _ k2 => exact ⟨a, pa, v3, pvs, rfl, ea, ep, pL, i3, k0, k2⟩
theorem psub_congr {f g : AL} (h : ∀ z, get f z = get g z) : ∀ t : PV, psub f t = psub g t := by
  intro t
  have key : ∀ n, ∀ t : PV, dep t ≤ n → psub f t = psub g t := by
    intro n
    induction n with
    | zero => intro t ht; have := dep_pos t; omega
    | succ n ih =>
      intro t ht
      cases t with
      | str z => simp only [psub, h z]
      | oth => rfl
      | tup l =>
        cases l with
        | nil => rfl
        | cons x r =>
          simp only [psub, psubL_map]
          refine congrArg PV.tup (congrArg _ (List.map_congr_left fun y hy => ih y ?_))
          have := depL_mem (List.mem_cons_of_mem x hy)
          simp only [dep] at ht
          omega
  exact key _ t (Nat.le_refl _)
theorem isL_sok {H : Hp} : ∀ {vs : List V} {kk : List (Str × PV)}, IsL H vs (kk.map prPV) → ∀ k ∈ kk, sok k.1 = true
  | _, [], _, k, h => by cases h
  | _, x :: r, .cons h t, k, hk => by
    rcases List.mem_cons.mp hk with rfl | hk
    · obtain ⟨_, _, _, _, _, s⟩ := pr_inv h
      exact s
    · exact isL_sok t k hk
theorem sok_map {kk : List (Str × PV)} (h : ∀ k ∈ kk, sok k.1 = true) : ∀ z ∈ kk.map (·.1), sok z = true := fun z hz => by
  obtain ⟨k, hk, rfl⟩ := List.mem_map.mp hz
  exact h k hk
def spLIdx (n : Nat) : Sp := fun vs H Q _ => ∃ (v u : V) (mk : List PV) (F : List Str) (cs : List Con) (t : List PV), vs = [v, u] ∧ Is H v (tabPV mk F cs) ∧ TabG F cs ∧ Is H u (.tup t) ∧ RawV cs (.tup t) ∧ dep (.tup t) ≤ n ∧ dep (.tup t) ≤ 20 ∧
  ∀ r H', Same H H' → KindIs H' r (idxOf cs (.tup t)) → Q r H'
theorem ok_law_index {n : Nat} (T : Txt K mg) (G_law_index : FnOk P w K mg base CX0 (n+4) T.a_law_index T.d_law_index ["table", "value"] (spLIdx n)) (G_law_fit : FnOk P w K mg base CX0 1 T.a_law_fit T.d_law_fit ["patterns", "trees"] (spLFit 60)) (G_law_put : FnOk P w K mg base CX0 4 T.a_law_put T.d_law_put ["term", "trees"] (spLPut 3)) : FnOk P w K mg base CX0 (n+5) T.a_law_index T.d_law_index ["table", "value"] (spLIdx (n+1)) := by
  refine T.F_law_index.ok sc_law_index (fun vs H Q E h => ?_) (fun cdv A outer s H vs Q E hr h => ?_)
  · obtain ⟨v, u, mk, F, cs, t, rfl, _⟩ := h; rfl
  · obtain ⟨v, u, mk, F, cs, t, rfl, hI, G, hu0, hraw, hn, h20, q⟩ := h
    have hu := hu_of hr
    have hr_law_index := hr
    have hr_law_fit : Room 1 _ := hr.mono (by omega)
    have hr_law_put : Room 4 _ := hr.mono (by omega)
    refine ⟨_, (pss_cons (ps_set (i := 2) sc_law_index.nd rfl (Or.inl rfl) (pe_ix ix_list (pe_lc (own := [("one", 5)]) (g := (gName 5)) rfl sc_law_index.nd (pi_tup (pe_ix ix_tup (pv 0) pe_int (fun _ _ => rfl))) (blkOk_by (own := [("one", 5)]) (N := ["table", "value", "row", "found", "trees", "one", "part", "pair"]) (sc := defScope s_law_index) (by decide +kernel)) (fun _ _ _ _ _ => (pg_name (i := 5) sc_law_index.nd rfl (Or.inl rfl))) (fun _ _ _ _ _ => pts_one (pt_cmpR op_eq (pe_ix (ixTK (K := K)) (pv 5) pe_int (fun _ _ => rfl)) (pe_ix (ixTK (K := K)) (pv 1) pe_int (fun _ _ => rfl)) (nomark _))) (fun _ _ _ _ _ => (pv 5))) pe_int (fun _ _ => rfl)))
    (pss_cons (ps_setLc (i := 3) (own := [("part", 6)]) (g := (gName 6)) (tt := tYes) rfl sc_law_index.nd rfl rfl (sw_true rfl rfl rfl (by decide +kernel)) (pi_tup (pe_slice sl_tup (pv 1) (po_some pe_int) po_none)) (blkOk_by (own := [("part", 6)]) (N := ["table", "value", "row", "found", "trees", "one", "part", "pair"]) (sc := defScope s_law_index) (by decide +kernel)) (fun _ _ _ _ _ => (pg_name (i := 6) sc_law_index.nd rfl (Or.inl rfl))) (fun _ _ _ _ _ => pts_nil) (fun _ _ _ _ _ => (pe_call G_law_index hr_law_index rfl T.m_law_index T.F_law_index.kp T.b_law_index .nil pass0 (pa_cons (pv 0) (pa_cons (pv 6) pa_nil)))))
    (pss_cons (ps_if (PW.pt (pw_or (pt_cmpR (noneIn (u200 hr)) pe_non (pv 3) (by rfl)) (pw_or1 (pt_cmpR (neP (u200 hr)) (pe_lc (own := [("pair", 7)]) (g := (gName 7)) (tt := tYes) rfl sc_law_index.nd (pi_list (pv 3)) (blkOk_by (own := [("pair", 7)]) (N := ["table", "value", "row", "found", "trees", "one", "part", "pair"]) (sc := defScope s_law_index) (by decide +kernel)) (fun _ _ _ _ _ => (pg_name (i := 7) sc_law_index.nd rfl (Or.inl rfl))) (fun _ _ _ _ _ => pts_nil) (fun _ _ _ _ _ => (pe_ix (ixTK (K := K)) (pv 7) pe_int (fun _ _ => rfl)))) (pe_lc (own := [("pair", 7)]) (g := (gName 7)) (tt := tYes) rfl sc_law_index.nd (pi_tup (pe_ix ix_tup (pv 2) pe_int (fun _ _ => rfl))) (blkOk_by (own := [("pair", 7)]) (N := ["table", "value", "row", "found", "trees", "one", "part", "pair"]) (sc := defScope s_law_index) (by decide +kernel)) (fun _ _ _ _ _ => (pg_name (i := 7) sc_law_index.nd rfl (Or.inl rfl))) (fun _ _ _ _ _ => pts_nil) (fun _ _ _ _ _ => (pe_ix (ixTK (K := K)) (pv 7) pe_int (fun _ _ => rfl)))) (nomark _))))) (pss_one (ps_ret pe_non)) pss_nil)
    (pss_cons (ps_set (i := 4) sc_law_index.nd rfl (Or.inl rfl) (pe_call G_law_fit hr_law_fit rfl T.m_law_fit T.F_law_fit.kp T.b_law_fit .nil pass0 (pa_cons (pe_lc (own := [("pair", 7)]) (g := (gName 7)) (tt := tYes) rfl sc_law_index.nd (pi_tup (pe_ix ix_tup (pv 2) pe_int (fun _ _ => rfl))) (blkOk_by (own := [("pair", 7)]) (N := ["table", "value", "row", "found", "trees", "one", "part", "pair"]) (sc := defScope s_law_index) (by decide +kernel)) (fun _ _ _ _ _ => (pg_name (i := 7) sc_law_index.nd rfl (Or.inl rfl))) (fun _ _ _ _ _ => pts_nil) (fun _ _ _ _ _ => (pe_ix (ixTK (K := K)) (pv 7) pe_int (fun _ _ => rfl)))) (pa_cons (pe_lc (own := [("pair", 7)]) (g := (gName 7)) (tt := tYes) rfl sc_law_index.nd (pi_list (pv 3)) (blkOk_by (own := [("pair", 7)]) (N := ["table", "value", "row", "found", "trees", "one", "part", "pair"]) (sc := defScope s_law_index) (by decide +kernel)) (fun _ _ _ _ _ => (pg_name (i := 7) sc_law_index.nd rfl (Or.inl rfl))) (fun _ _ _ _ _ => pts_nil) (fun _ _ _ _ _ => (pe_ix (ixTK (K := K)) (pv 7) pe_int (fun _ _ => rfl)))) pa_nil))))
    (pss_cons (ps_if (pt_cmpR op_isN (pv 4) pe_non (nomark _)) (pss_one (ps_ret pe_non)) pss_nil)
    (pss_one (ps_ret (pe_tup (pa_cons (pe_ix ix_tup (pv 2) pe_int (fun _ _ => rfl)) (pa_cons (pe_call G_law_put hr_law_put rfl T.m_law_put T.F_law_put.kp T.b_law_put .nil pass0 (pa_cons (pe_ix ix_tup (pv 2) pe_int (fun _ _ => rfl)) (pa_cons (pv 4) pa_nil))) pa_nil)))))))))), ?_⟩
    have CG := con_of G
    have len12 := G.len.2
    have le3 : ∀ c ∈ cs, c.ps.length ≤ 3 := fun c hc => (CG c hc).len
    obtain ⟨ua, w0, us, ts, rfl, et, eua, hL, hw, h3, hvL⟩ := rvt_inv (raw_rv le3 _ hraw) hu0
    cases et
    obtain ⟨c, hfind, hc, hcl, hparts⟩ := raw_con hraw
    have hix : idxOf cs (.tup (.str w0 :: ts)) = madeK c (idxL cs ts) := by simp only [idxOf, hfind]
    rw [hix] at q
    have hd : dep (.tup (.str w0 :: ts)) = 1 + max 1 (depL ts) := dep_cons _ _
    obtain ⟨a, v0, v1, fa, ca, fvs, cvs, rfl, ea, ef, fL, ec, cL⟩ := tab_inv hI
    refine ⟨_, rfl, a, _, _, _, rfl, rfl, .inl (.inl ea), atI_nat (j := 3) rfl, ca, rfl, ⟨_, .inl (.inl ec)⟩, fun D hD => ?_⟩
    refine lc_pickT (K := K) (a := ca) (xs := cvs) ordS (fun c : Con => c.w == w0) (fun H v c => Is H v (conPV c)) (fun H v c => Is H v (conPV c)) (fun H' s => .inl (.inl (s _ _ ec))) (isL_pair cL) (fun s h => h.same s) (fun s h => h.same s) (fun e h => h.wr e) hD (by omega) (fun x y H9 Q' Z hx hy s9 y1 y0 => ?_) (fun H2 ws s2 eD hws => ?_)
    · obtain ⟨xa, pa, iv, pvs, rfl, ex, _⟩ := con_inv hx
      refine ⟨rfl, _, rfl, xa, _, _, _, rfl, rfl, .inl (.inl ex), atI_nat (j := 0) rfl, _, rfl, ua, _, _, _, rfl, rfl, .inl (.inl (s9 _ _ eua)), atI_nat (j := 0) rfl, rfl, _, rfl, ?_⟩
      refine ite2 (fun c => ⟨_, rfl, y1 (by simpa using c) _ _ (.refl _) hx⟩) (fun c => y0 (by simpa using c) _ (.refl _))
    · rw [filt_one (words_nd G) hfind] at hws
      cases hws with
      | @cons cv _ wl _ icv hws =>
      cases hws
      obtain ⟨ra, pa, iv, pvs, rfl, er, ep, pL, iiv, k0, k1⟩ := con_inv icv
      have eua2 := s2 _ _ eua
      refine ⟨D, _, _, _, rfl, rfl, SqL.of eD, atI_nat (j := 0) rfl, _, rfl, _, rfl, ua, _, rfl, .inl (.inl eua2), slice1, fun p1 h1 => ?_⟩
      rw [cut1]
      have s3 := same_upd h1 (.tup us)
      refine ⟨p1, rfl, ⟨_, .inl (.inl upd_same)⟩, fun D2 hD2 => ?_⟩
      have s23 := s2.trans s3
      refine lc_pickT (K := K) (a := p1) (xs := us) ordS (fun _ => true) (fun H v (t : PV) => Is H v t) (fun H v t => KindIs H v (idxOf cs t)) (fun H' s => .inl (.inl (s _ _ upd_same))) (isL_pair (F := id) (by rw [List.map_id]; exact IsL.same s23 hL)) (fun s h => h.same s) (fun s h => h.same s) (fun e h => h.wr e) hD2 (by omega) (fun x y H9 Q' Z hx hy s9 y1 y0 => ?_) (fun H4 ws4 s4 eD4 hws4 => ?_)
      · have rw_ := hparts y hy
        have dy := depL_mem hy
        have yv := mem_RvL hvL y hy
        obtain ⟨wy, tsy, eyt, _⟩ := rv_inv yv
        subst eyt
        exact ⟨rfl, yes_if ⟨_, rfl, _, rfl, _, x, mk, F, cs, _, rfl, (hI.same s23).same s9, G, hx, rw_, by omega, by omega, fun r H5 s5 hk => y1 rfl r H5 s5 hk⟩⟩
      · rw [filt_all] at hws4
        have hK4 := pair_kindL hws4
        rw [← idxL_map] at hK4
        have trees := idxL_tree CG ts hparts
        have no : ∀ k ∈ idxL cs ts, ∀ z, k = some z → NoO z.2 := fun k hk z hz => tm_no (gr_tm (trees k hk z hz).2.1)
        have s24 := s23.trans s4
        refine ⟨_, rfl, D2, ws4, idxL cs ts, rfl, rfl, eD4, hK4, no, ?_⟩
        refine ⟨_, rfl, ite2 (fun ch => ?_) (fun ch => ?_)⟩
        · have bad : madeK c (idxL cs ts) = none := by
            unfold madeK treesFor
            rw [if_neg, Option.map_none]
            intro good
            obtain ⟨k, hk, e⟩ := List.any_eq_true.mp ch
            obtain ⟨y, rfl⟩ := goodK_some (by rw [idxL_map, List.length_map]; exact hcl) good k hk
            cases e
          exact iteT (q _ H4 s24 (by rw [bad]; rfl))
        obtain ⟨kk, ekk⟩ := all_some (Bool.eq_false_iff.mpr ch)
        rw [ekk] at hK4
        have hPr := kindL_pr hK4
        have kkl : kk.length = ts.length := by
          have := congrArg List.length ekk
          rw [idxL_map, List.length_map, List.length_map] at this
          exact this.symm
        refine ⟨_, rfl, D2, rfl, ⟨_, SqL.of eD4⟩, fun D3 hD3 => ?_⟩
        refine lc_pickL (K := K) (a := D2) (xs := ws4) ordS (fun _ => true) (fun H v (p : Str × PV) => Is H v (prPV p)) (fun _ v (p : Str × PV) => v = V.str p.1) (fun H' s => SqL.of (s _ _ eD4)) (isL_pair hPr) (fun s h => h.same s) (fun _ h => h) (fun _ h => h) hD3 (by omega) (fun x y H9 Q' Z hx hy s9 y1 y0 => ?_) (fun H5 ws5 s5 eD5 p5 => ?_)
        · obtain ⟨xa, tv, rfl, ex, it, k⟩ := pr_inv hx
          exact ⟨rfl, yes_if ⟨_, rfl, xa, _, _, _, rfl, rfl, .inl (.inl ex), atI_nat (j := 0) rfl, y1 rfl _ _ (.refl _) rfl⟩⟩
        rw [filt_all] at p5
        have e5 := pair_strs p5
        subst e5
        have s25 := s24.trans s5
        have s35 := s23.trans (s4.trans s5)
        refine ⟨_, rfl, ra, _, _, _, rfl, rfl, .inl (.inl (s3.trans (s4.trans s5) _ _ er)), atI_nat (j := 1) rfl, pa, rfl, ⟨_, .inl (.inl (s3.trans (s4.trans s5) _ _ ep))⟩, fun D4 hD4 => ?_⟩
        refine lc_pickT (K := K) (a := pa) (xs := pvs) ordS (fun _ => true) (fun H v (p : Str × PV) => Is H v (prPV p)) (fun _ v (p : Str × PV) => v = V.str p.1) (fun H' s => .inl (.inl (s _ _ (s3.trans (s4.trans s5) _ _ ep)))) (isL_pair (pL.same (s3.trans (s4.trans s5)))) (fun s h => h.same s) (fun _ h => h) (fun _ h => h) hD4 (by have := (CG c hc).len; omega) (fun x y H9 Q' Z hx hy s9 y1 y0 => ?_) (fun H6 ws6 s6 eD6 p6 => ?_)
        · obtain ⟨xa, tv, rfl, ex, it, k⟩ := pr_inv hx
          exact ⟨rfl, yes_if ⟨_, rfl, xa, _, _, _, rfl, rfl, .inl (.inl ex), atI_nat (j := 0) rfl, y1 rfl _ _ (.refl _) rfl⟩⟩
        rw [filt_all] at p6
        have e6 := pair_strs p6
        subst e6
        refine rNe_strs (SqL.of (s6 _ _ eD5)) (SqL.of eD6) (sok_map (isL_sok hPr)) (sok_map (isL_sok pL)) ⟨_, rfl, ite2 (fun cf => ?_) (fun cf => ?_)⟩
        · have bad : madeK c (idxL cs ts) = none := by
            unfold madeK treesFor
            rw [if_neg, Option.map_none]
            rw [ekk, goodK_fam (by omega)]
            simpa using cf
          exact q _ H6 (s25.trans s6) (by rw [bad]; rfl)
        have good : goodK c.ps (idxL cs ts) = true := by
          rw [ekk, goodK_fam (by omega)]
          simpa using cf
        have s26 := s25.trans s6
        have er6 := (s3.trans (s4.trans (s5.trans s6))) _ _ er
        have ep6 := (s3.trans (s4.trans (s5.trans s6))) _ _ ep
        have pL6 := pL.same (s3.trans (s4.trans (s5.trans s6)))
        have iiv6 := iiv.same (s3.trans (s4.trans (s5.trans s6)))
        have eD46 := (s5.trans s6) _ _ eD4
        have hPr6 := hPr.same (s5.trans s6)
        refine ⟨_, rfl, ra, _, _, _, rfl, rfl, .inl (.inl er6), atI_nat (j := 1) rfl, pa, rfl, ⟨_, .inl (.inl ep6)⟩, fun D5 hD5 => ?_⟩
        refine lc_pickT (K := K) (a := pa) (xs := pvs) ordS (fun _ => true) (fun H v (p : Str × PV) => Is H v (prPV p)) (fun H v (p : Str × PV) => Is H v p.2) (fun H' s => .inl (.inl (s _ _ ep6))) (isL_pair pL6) (fun s h => h.same s) (fun s h => h.same s) (fun e h => h.wr e) hD5 (by have := (CG c hc).len; omega) (fun x y H9 Q' Z hx hy s9 y1 y0 => ?_) (fun H7 ws7 s7 eD7 p7 => ?_)
        · obtain ⟨xa, tv, rfl, ex, it, k⟩ := pr_inv hx
          exact ⟨rfl, yes_if ⟨_, rfl, xa, _, _, _, rfl, rfl, .inl (.inl ex), atI_nat (j := 1) rfl, y1 rfl _ _ (.refl _) it⟩⟩
        rw [filt_all] at p7
        refine ⟨_, rfl, D2, rfl, ⟨_, SqL.of (s7 _ _ eD46)⟩, fun D6 hD6 => ?_⟩
        refine lc_pickL (K := K) (a := D2) (xs := ws4) ordS (fun _ => true) (fun H v (p : Str × PV) => Is H v (prPV p)) (fun H v (p : Str × PV) => Is H v p.2) (fun H' s => SqL.of (s _ _ (s7 _ _ eD46))) (isL_pair (hPr6.same s7)) (fun s h => h.same s) (fun s h => h.same s) (fun e h => h.wr e) hD6 (by omega) (fun x y H9 Q' Z hx hy s9 y1 y0 => ?_) (fun H8 ws8 s8 eD8 p8 => ?_)
        · obtain ⟨xa, tv, rfl, ex, it, k⟩ := pr_inv hx
          exact ⟨rfl, yes_if ⟨_, rfl, xa, _, _, _, rfl, rfl, .inl (.inl ex), atI_nat (j := 1) rfl, y1 rfl _ _ (.refl _) it⟩⟩
        rw [filt_all] at p8
        have i7 : IsL H8 ws7 (c.ps.map (·.2)) := IsL.same s8 (pair_isL p7)
        have i8 : IsL H8 ws8 (kk.map (·.2)) := pair_isL p8
        obtain ⟨fps, vz⟩ := ps_vsz (CG c hc).ps (CG c hc).len
        have s28 := s26.trans (s7.trans s8)
        have dl : depL ts ≤ 19 := by omega
        have kt : ∀ t ∈ kk.map (·.2), TreeG MK 60 t := fun t ht => by
          obtain ⟨k, hk, rfl⟩ := List.mem_map.mp ht
          obtain ⟨a1, a2, a3⟩ := trees (some k) (by rw [ekk]; exact List.mem_map.mpr ⟨k, hk, rfl⟩) k rfl
          exact ⟨a1, a2, by omega⟩
        have eTF : treesFor c.ps (idxL cs ts) = lfit (c.ps.map (·.2)) (kk.map (·.2)) := by
          unfold treesFor lfit
          rw [if_pos good, ekk, treeK_some]
        refine ⟨D5, D6, ws7, ws8, _, _, rfl, s8 _ _ eD7, eD8, i7, i8, fps, by rw [List.length_map, List.length_map]; omega, vz, kt, by decide, fun al f H9 hal s9 ⟨al', hA, nd, gA, eq⟩ => ?_, fun hn H9 s9 => ?_⟩
        · refine ⟨_, rfl, rfl, _, rfl, iteF ?_⟩
          have s29 := s28.trans s9
          have er9 := (s7.trans (s8.trans s9)) _ _ er6
          have iiv9 := iiv6.same (s7.trans (s8.trans s9))
          have names : ∀ z ∈ lv c.ix, get al' z ≠ none := fun z hz => by
            rw [eq]
            obtain ⟨p, hp, hz2⟩ := (CG c hc).nms z hz
            have fk : formL MK true (kk.map (·.2)) = true := by rw [formL_all]; exact List.all_eq_true.mpr fun t ht => (kt t ht).1
            have hal2 := hal
            unfold lfit at hal2
            split at hal2
            · rename_i fits
              cases hal2
              exact fitL_names (mk := MK) _ _ [] (by rw [List.length_map, List.length_map]; omega) fps fk fits z (lvL_mem (List.mem_map.mpr ⟨p, hp, rfl⟩) hz2)
            · cases hal2
          refine ⟨_, rfl, ra, _, _, _, rfl, rfl, .inl (.inl er9), atI_nat (j := 2) rfl, _, rfl, ra, _, _, _, rfl, rfl, .inl (.inl er9), atI_nat (j := 3) rfl, _, rfl, f, MK, iv, c.ix, al', rfl, hA, iiv9, mk_ar, (CG c hc).ix.1, names, (CG c hc).ix.2, fun v' H10 s10 iv' => ⟨(by show 2 ≤ sizeLine; decide), fun p hp => ?_⟩⟩
          have s11 := same_upd hp (.tup [.str c.fam, v'])
          refine q _ _ ((s29.trans s10).trans s11) ?_
          unfold madeK
          rw [eTF, hal]
          rw [psub_congr eq] at iv'
          exact .tup upd_same (.cons (.str _ k1) (.cons (iv'.same s11) .nil))
        · refine ⟨_, rfl, rfl, _, rfl, iteT (q _ H9 (s28.trans s9) ?_)⟩
          unfold madeK
          rw [eTF, hn]
          rfl
end
end Kx
/-! xs[::k], a list: only that its items come from it. -/
namespace Kx
open PySem PySem.Spec PyProof.Rows L2
theorem picked_vals {xs : List V} {us : List Value} (r : Vals xs us) : ∀ js : List Nat, Vals (js.filterMap fun j => xs[j]?) (js.filterMap fun j => us[j]?)
  | [] => .nil
  | j :: js => by
    have ih := picked_vals r js
    simp only [List.filterMap_cons]
    cases e : xs[j]? with
    | none =>
      have hu : us[j]? = none := by
        have := List.getElem?_eq_none_iff.mp e
        exact List.getElem?_eq_none_iff.mpr (by rw [← r.length]; exact this)
      rw [hu]
      exact ih
    | some x =>
      obtain ⟨u, eu, ru⟩ := Vals.get r e
      rw [eu]
      exact .cons ru ih
/-- the steps of xs[::k] -/
def tSlStep (K : PySem.W.Frag) (te tk : TE) : TE := fun σ H Q => te σ H fun x H1 => tk σ H1 fun k H2 => ∃ (a : Addr) (xs : List V) (i : Int), x = .ref a ∧ k = .int i ∧ i ≠ 0 ∧ SqL K H2 a xs ∧ ∀ p (ys : List V), H2 p = none → (∀ y ∈ ys, y ∈ xs) → ys.length ≤ xs.length → Q (.ref p) (upd H2 p (.lst ys))
section
variable {X : Cx}
theorem pe_slStep {e st : Expr} {te tk : TE} {p3 pos : Pos} (he : PE X e te) (hk : PE X st tk) : PE X (.Subscript e (.Slice none none (some st) p3) pos) (tSlStep X.K te tk) := by
  refine ⟨fun pins s σ H Q I h => ?_⟩
  refine Subscript_ (thn (he.run pins s σ H _ I h) fun v s1 ⟨x, H1, I1, r1, q1⟩ => ?_)
  refine wpAny_Slice (thn (po_none.run pins s1 σ H1 (fun o H2 => o = none ∧ H2 = H1) I1 ⟨rfl, rfl⟩) fun vl s2 ⟨l, H2, I2, pl, el, e2⟩ => ?_)
  subst el e2
  refine thn (po_none.run pins s2 σ H2 (fun o H3 => o = none ∧ H3 = H2) I2 ⟨rfl, rfl⟩) fun vu s3 ⟨u, H3, I3, pu, eu, e3⟩ => ?_
  subst eu e3
  rw [evalPart_some]
  refine thn (hk.run pins s3 σ H3 _ I3 q1) fun vs s4 ⟨kv, H4, I4, rk, a, xs, i, ex, ek, hne, hx, fin⟩ => ?_
  subst ex ek
  cases r1
  obtain ⟨tk2, rfl⟩ := rk
  have I5 : Inv X pins σ H4 { s4 with heap := s4.heap.push { cls := .type "slice", data := .fields #[vl, vu, .int i tk2] } } := I4.kept (t' := s4.toks) fun b ob q => Heap.get?_push_of_some _ q
  obtain ⟨its, r, ht, hz⟩ := I5.list hx
  have hlen := r.length
  show wpAny (model X.prog X.w) X.A (subscriptTail e (.Slice none none (some st) p3) (.ref a) (.ref s4.heap.objs.size)) (EP X pins σ Q) X.xe { s4 with heap := s4.heap.push { cls := .type "slice", data := .fields #[vl, vu, .int i tk2] } }
  refine tail_any (ops := [.ref a, .ref s4.heap.objs.size]) ht.isList.typeIs (PySem.slot_list_getitem.lookup) ?_ (by with_unfolding_all rfl)
  have szle := slicePick_size_le its.toArray none none (some i)
  refine wpAny_getItem_list_slice ht.isList (Heap.IsSliceOf.new _ vl vu (.int i tk2)) pl pu (.int i tk2) (by simpa using hne) ?_ (by rw [List.size_toArray]; omega)
  unfold slicePick at szle ⊢
  have fe : ∀ js : List Nat, js.filterMap (fun j => its.toArray[j]?) = js.filterMap (fun j => its[j]?) := fun js => by simp
  rw [fe] at szle ⊢
  have pv := picked_vals r (sliceRange (sliceBounds none none (some i) its.toArray.size).1 (sliceBounds none none (some i) its.toArray.size).2.1 (sliceBounds none none (some i) its.toArray.size).2.2)
  generalize sliceRange (sliceBounds none none (some i) its.toArray.size).1 (sliceBounds none none (some i) its.toArray.size).2.1 (sliceBounds none none (some i) its.toArray.size).2.2 = js at pv szle
  have pl2 := pv.length
  simp only [List.size_toArray] at szle
  refine ⟨.ref _, _, I5.laid (t' := s4.toks) (o := .lst (js.filterMap fun j => xs[j]?)) (fun b ob q => Heap.get?_push_of_some _ q) (Nat.le_refl _) ?_, rfl, fin _ _ (I5.hok.fresh (Nat.le_refl _)) (fun y hy => ?_) (by omega)⟩
  · exact ⟨by omega, _, 0, pv, Heap.get?_push_size _ rfl⟩
  · obtain ⟨j, _, ej⟩ := List.mem_filterMap.mp hy
    exact List.mem_of_getElem? ej
end
end Kx
namespace Kx
open PySem PySem.Spec PyProof.Rows L2
section
variable {P : Program} {w : World} {K : PySem.W.Frag} {mg : Str → Option Value} {base : Heap}
/-! ### _law_grown -/
theorem catAK {X : Cx} {K : PySem.W.Frag} (h : X.K = K := by rfl) : OpR X (binaryOp .Add) (rCatA K) := by subst h; exact op_catA
/-- a raw value, not deep -/
def RVn (cs : List Con) (n : Nat) (t : PV) : Prop := ∃ l, t = .tup l ∧ RawV cs t ∧ dep t ≤ n
theorem RVn.mono {cs : List Con} {n m : Nat} {t : PV} (h : RVn cs n t) (l : n ≤ m) : RVn cs m t := by
  obtain ⟨a, b, c, d⟩ := h
  exact ⟨a, b, c, by omega⟩
abbrev KI := PV × Str × PV
def kiPV (k : KI) : PV := .tup [k.1, .str k.2.1, k.2.2]
theorem ki_inv {H : Hp} {v : V} {k : KI} (h : Is H v (kiPV k)) : ∃ a tv xv, v = .ref a ∧ H a = some (.tup [tv, .str k.2.1, xv]) ∧ Is H tv k.1 ∧ Is H xv k.2.2 ∧ sok k.2.1 = true := by
  obtain ⟨a, vs, rfl, ea, hL⟩ := h.tup_inv
  cases hL with
  | @cons v0 _ _ _ i0 hL =>
  cases hL with
  | @cons v1 _ _ _ i1 hL =>
  cases hL with
  | @cons v2 _ _ _ i2 hL =>
  cases hL
  have e1 := i1.str_inv
  subst e1
  cases i1 with
  | str _ k1 => exact ⟨a, v0, v2, rfl, ea, i0, i2, k1⟩
theorem isL_sub {H : Hp} {α : Type} {F : α → PV} {xs : List V} {qs : List α} (h : IsL H xs (qs.map F)) : ∀ {ys : List V}, (∀ y ∈ ys, y ∈ xs) → ∃ qs' : List α, IsL H ys (qs'.map F) ∧ ∀ q ∈ qs', q ∈ qs
  | [], _ => ⟨[], .nil, fun q h => by cases h⟩
  | y :: ys, s => by
    obtain ⟨qs', a, b⟩ := isL_sub h (ys := ys) fun z hz => s z (List.mem_cons_of_mem _ hz)
    obtain ⟨i, hi, ei⟩ := List.getElem_of_mem (s y (List.mem_cons_self ..))
    obtain ⟨t, et, it⟩ := h.get (show xs[i]? = some y by rw [List.getElem?_eq_getElem hi, ei])
    rw [List.getElem?_map] at et
    obtain ⟨q, hq, rfl⟩ := Option.map_eq_some_iff.mp et
    exact ⟨q :: qs', .cons it a, fun z hz => by
      rcases List.mem_cons.mp hz with rfl | hz
      · exact List.mem_of_getElem? hq
      · exact b z hz⟩
theorem raw_make {cs : List Con} {c : Con} (nd : (cs.map (·.w)).Nodup) (hc : c ∈ cs) {ts : List PV} {n : Nat} (hl : ts.length = c.ps.length) (h : ∀ t ∈ ts, RVn cs n t) : RVn cs (n + 2) (.tup (.str c.w :: ts)) := by
  refine ⟨_, rfl, ?_, ?_⟩
  · unfold RawV
    simp only [form, Bool.and_eq_true, beq_iff_eq]
    refine ⟨?_, ?_⟩
    · rw [look_cnts]
      have : cs.find? (fun x => x.w == c.w) = some c := by
        cases e : cs.find? (fun x => x.w == c.w) with
        | none =>
          have := List.find?_eq_none.mp e c hc
          simp at this
        | some x =>
          have h1 := filt_one nd e
          have h2 : c ∈ cs.filter (fun x => x.w == c.w) := List.mem_filter.mpr ⟨hc, by simp⟩
          rw [h1] at h2
          rw [List.mem_singleton.mp h2]
      rw [this, hl]
      rfl
    · rw [formL_all]
      exact List.all_eq_true.mpr fun t ht => by obtain ⟨_, _, r, _⟩ := h t ht; exact r
  · rw [dep_cons]
    have : depL ts ≤ n := depL_le fun t ht => by obtain ⟨_, _, _, d⟩ := h t ht; exact d
    omega
theorem dep1 {n : Nat} {w : Str} {ts : List PV} (h : depL ts ≤ n) (h1 : 1 ≤ n) : dep (.tup (.str w :: ts)) ≤ n + 1 := by rw [dep_cons]; omega
def KnG (cs : List Con) (n : Nat) (ks : List KI) : Prop := ∀ k ∈ ks, RVn cs n k.1
def spGrown : Sp := fun vs H Q _ => ∃ (v : V) (kl : Addr) (xs : List V) (ks : List KI) (mk : List PV) (F : List Str) (cs : List Con) (n : Nat), vs = [v, .ref kl, .int 4] ∧ n + 2 ≤ 20 ∧ Is H v (tabPV mk F cs) ∧ TabG F cs ∧ H kl = some (.lst xs) ∧ IsL H xs (ks.map kiPV) ∧ KnG cs n ks ∧ ks.length ≤ 150 ∧
  ∀ l H' ys ks', Same H H' → H l = none → H' l = some (.lst ys) → IsL H' ys (ks'.map kiPV) → KnG cs (n + 2) ks' → ks'.length ≤ ks.length + 48 → Q (.ref l) H'
theorem ok_law_grown {m : Nat} (T : Txt K mg) (G_law_index : FnOk P w K mg base CX0 m T.a_law_index T.d_law_index ["table", "value"] (spLIdx 20)) : FnOk P w K mg base CX0 (m+1) T.a_law_grown T.d_law_grown ["table", "known", "most"] spGrown := by
  refine T.F_law_grown.ok sc_law_grown (fun vs H Q E h => ?_) (fun cdv A outer s H vs Q E hr h => ?_)
  · obtain ⟨v, kl, xs, ks, mk, F, cs, n, rfl, _⟩ := h; rfl
  · obtain ⟨v, kl, xs, ks, mk, F, cs, n, rfl, hn, hI, G, ekl, hX, kg, k150, q⟩ := h
    have hr_law_index := hr
    have CG := con_of G
    have len12 := G.len.2
    have nd := words_nd G
    have xl := hX.len
    rw [List.length_map] at xl
    refine ⟨_, (pss_cons (ps_set (i := 3) sc_law_grown.nd rfl (Or.inl rfl) (pe_callTy call_list_of (by rfl) T.z_list (by decide +kernel) (pa_cons (pv 1) pa_nil)))
    (pss_cons (ps_for PassesOwn.never rfl (pi_tup (pe_ix ix_tup (pv 0) pe_int (fun _ _ => rfl))) (pg_name (i := 4) sc_law_grown.nd rfl (Or.inl rfl))
    (pss_cons (ps_set (i := 5) sc_law_grown.nd rfl (Or.inl rfl) (pe_lst (pa_cons (pe_tup pa_nil) pa_nil)))
    (pss_cons (ps_for PassesOwn.never rfl (pi_tup (pe_ix ix_tup (pv 4) pe_int (fun _ _ => rfl))) (pg_tup rfl (pgs_cons (pg_name (i := 6) sc_law_grown.nd rfl (Or.inr rfl)) (pgs_cons (pg_name (i := 7) sc_law_grown.nd rfl (Or.inl rfl)) pgs_nil)))
    (pss_cons (ps_set (i := 8) sc_law_grown.nd rfl (Or.inl rfl) (pe_lst pa_nil))
    (pss_cons (ps_for PassesOwn.never rfl (pi_list (pv 5)) (pg_name (i := 9) sc_law_grown.nd rfl (Or.inr rfl))
    (pss_one (ps_set (i := 8) sc_law_grown.nd rfl (Or.inl rfl) (pe_op op_cat (pv 8) (pe_lc (own := [("one", 12)]) (g := (gName 12)) rfl sc_law_grown.nd (pi_list (pv 1)) (blkOk_by (own := [("one", 12)]) (N := ["table", "known", "most", "more", "row", "rows", "family", "term", "longer", "parts", "value", "index", "one"]) (sc := defScope s_law_grown) (by decide +kernel)) (fun _ _ _ _ _ => (pg_name (i := 12) sc_law_grown.nd rfl (Or.inl rfl))) (fun _ _ _ _ _ => pts_one (pt_cmpR op_eq (pe_ix (ixTK (K := K)) (pv 12) pe_int (fun _ _ => rfl)) (pv 6) (nomark _))) (fun _ _ _ _ _ => (pe_op (catAK (K := K)) (pv 9) (pe_tup (pa_cons (pe_ix (ixTK (K := K)) (pv 12) pe_int (fun _ _ => rfl)) pa_nil)))))))))
    (pss_one (ps_set (i := 5) sc_law_grown.nd rfl (Or.inl rfl) (pe_slice sl_list (pe_slStep (pv 8) (pe_callB (call_max2 rfl) (by rfl) T.z_max (by decide +kernel) (pa_cons pe_int (pa_cons (pe_op op_fdivN (pe_callB call_len_seq (by rfl) T.z_len (by decide +kernel) (pa_cons (pv 8) pa_nil)) (pv 2)) pa_nil)))) po_none (po_some (pv 2))))))))
    (pss_one (ps_for PassesOwn.never rfl (pi_list (pv 5)) (pg_name (i := 9) sc_law_grown.nd rfl (Or.inr rfl))
    (Evl.pss_cut (ps_set (i := 10) sc_law_grown.nd rfl (Or.inr rfl) (pe_op op_catT (pe_tup (pa_cons (pe_ix ix_tup (pv 4) pe_int (fun _ _ => rfl)) pa_nil)) (pv 9)))
    (pss_cons (ps_set (i := 11) sc_law_grown.nd rfl (Or.inl rfl) (pe_call G_law_index hr_law_index rfl T.m_law_index T.F_law_index.kp T.b_law_index .nil pass0 (pa_cons (pv 0) (pa_cons (pv 10) pa_nil))))
    (pss_one (ps_if (PW.pt (pw_and (pt_cmpR op_notN (pv 11) pe_non (nomark _)) (pw_and1 (pt_cmpR op_eq (pe_callB call_len_seq (by rfl) T.z_len (by decide +kernel) (pa_cons (pe_lc (own := [("one", 12)]) (g := (gName 12)) rfl sc_law_grown.nd (pi_list (pv 3)) (blkOk_by (own := [("one", 12)]) (N := ["table", "known", "most", "more", "row", "rows", "family", "term", "longer", "parts", "value", "index", "one"]) (sc := defScope s_law_grown) (by decide +kernel)) (fun _ _ _ _ _ => (pg_name (i := 12) sc_law_grown.nd rfl (Or.inl rfl))) (fun _ _ _ _ _ => pts_one (pt_cmpR (eqP (K := K) (u200 hr)) (pe_ix (ixTK (K := K)) (pv 12) pe_int (fun _ _ => rfl)) (pv 10) (nomark _))) (fun _ _ _ _ _ => (pv 12))) pa_nil)) pe_int (nomark _))))) (pss_one (ps_expr (pe_bm PySem.F.plainAttrs_list PySem.F.slot_list_append PySem.F.type_list_append mt_append (pv 3) (pa_cons (pe_tup (pa_cons (pv 10) (pa_cons (pe_ix ix_tup (pv 11) pe_int (fun _ _ => rfl)) (pa_cons (pe_ix ix_tup (pv 11) pe_int (fun _ _ => rfl)) pa_nil)))) pa_nil)))) pss_nil)))))))))
    (pss_one (ps_ret (pv 3))))), ?_⟩
    obtain ⟨a, v0, v1, fa, ca, fvs, cvs, rfl, ea, ef, fL, ec, cL⟩ := tab_inv hI
    have cl := cL.len
    rw [List.length_map] at cl
    refine ⟨_, rfl, kl, xs, rfl, .inl (SqL.of ekl), fun ml hml => ?_⟩
    have s1 := same_upd hml (.lst xs)
    refine ⟨_, rfl, a, _, _, _, rfl, rfl, .inl (.inl (s1 _ _ ea)), atI_nat (j := 3) rfl, ca, rfl, ⟨_, .inl (.inl (s1 _ _ ec))⟩, ?_⟩
    refine for_tup (K := K) (a := ca) (xs := cvs) (fun i σ H2 => ∃ (y4 y5 y6 y7 y8 y9 y10 y11 : Option V) (ms : List V) (ks' : List KI), σ = [some (.ref a), some (.ref kl), some (.int 4), some (.ref ml), y4, y5, y6, y7, y8, y9, y10, y11, none] ∧ Same H H2 ∧ H2 ml = some (.lst ms) ∧ IsL H2 ms (ks'.map kiPV) ∧ KnG cs (n + 2) ks' ∧ ks'.length ≤ ks.length + 4 * i) ?_ ?_ ?_ ?_
    · exact ⟨none, none, none, none, none, none, none, none, xs, ks, rfl, s1, upd_same, hX.same s1, fun k hk => (kg k hk).mono (by omega), by omega⟩
    · exact fun i σ H2 _ ⟨_, _, _, _, _, _, _, _, _, _, _, sm, _⟩ => .inl (.inl (sm _ _ ec))
    · rintro i x σ H2 hx ⟨y4, y5, y6, y7, y8, y9, y10, y11, ms, ks', rfl, sm, eml, hM, kg', kl'⟩
      obtain ⟨y, ey, iy⟩ := cL.get hx
      rw [List.getElem?_map] at ey
      have hi : i < cs.length := by rw [← cl]; exact (List.getElem?_eq_some_iff.mp hx).1
      rw [List.getElem?_eq_getElem hi] at ey
      cases (Option.some.inj ey)
      obtain ⟨ra, pa, iv, pvs, rfl, er, ep, pL, iiv, k0, k1⟩ := con_inv iy
      refine ⟨(by show 0 ≤ sizeLine; decide), fun et het => ⟨(by show 1 ≤ sizeLine; decide), fun rl hrl => ?_⟩⟩
      have t1 := same_upd het (.tup [])
      have t2 := same_upd hrl (.lst [.ref et])
      have t12 := t1.trans t2
      have sm2 := sm.trans t12
      have eml2 := t12 _ _ eml
      have nrl : rl ≠ ml := fun z => by rw [z, t1 _ _ eml] at hrl; cases hrl
      refine ⟨_, rfl, ra, _, _, _, rfl, rfl, .inl (.inl (sm2 _ _ er)), atI_nat (j := 1) rfl, pa, rfl, ⟨_, .inl (.inl (sm2 _ _ ep))⟩, ?_⟩
      have cc := CG cs[i] (List.getElem_mem hi)
      have pl := pL.len
      rw [List.length_map] at pl
      refine for_tup (K := K) (a := pa) (xs := pvs) (fun j σ H3 => ∃ (y6 y7 y8 y9 : Option V) (rl : Addr) (rs : List V) (ps : List (List PV)), σ = [some (.ref a), some (.ref kl), some (.int 4), some (.ref ml), some (.ref ra), some (.ref rl), y6, y7, y8, y9, y10, y11, none] ∧ Same H H3 ∧ H3 ml = some (.lst ms) ∧ IsL H3 ms (ks'.map kiPV) ∧ rl ≠ ml ∧ H3 rl = some (.lst rs) ∧ IsL H3 rs (ps.map PV.tup) ∧ (∀ p ∈ ps, p.length = j ∧ ∀ t ∈ p, RVn cs n t) ∧ ps.length ≤ 4) ?_ ?_ ?_ ?_
      · refine ⟨_, _, _, _, rl, [.ref et], [[]], rfl, sm2, eml2, hM.same t12, nrl, upd_same, .cons (.tup (t2 _ _ upd_same) .nil) .nil, fun p hp => ?_, by simp⟩
        rw [List.mem_singleton.mp hp]
        exact ⟨rfl, fun t h => by cases h⟩
      · exact fun j σ H3 _ ⟨_, _, _, _, _, _, _, _, sm, _⟩ => .inl (.inl (sm _ _ ep))
      · rintro j x σ H3 hx ⟨y6, y7, y8, y9, rl, rs, ps, rfl, sm3, eml3, hM3, nrl3, erl, hR, pg, p4⟩
        obtain ⟨p, hp, ip⟩ := pL.get hx
        rw [List.getElem?_map] at hp
        obtain ⟨pp, hpp, rfl⟩ := Option.map_eq_some_iff.mp hp
        obtain ⟨xa, tv, rfl, ex, it, kf⟩ := pr_inv ip
        refine ⟨xa, _, rfl, .inl (.inl (sm3 _ _ ex)), rfl, _, _, rfl, _, _, rfl, rfl, ?_⟩
        refine ⟨(by show 0 ≤ sizeLine; decide), fun ll hll => ?_⟩
        have u1 := same_upd hll (.lst [])
        refine ⟨_, rfl, rl, rfl, ⟨_, SqL.of (u1 _ _ erl)⟩, ?_⟩
        have rlen := hR.len
        rw [List.length_map] at rlen
        refine for_list (K := K) (a := rl) (xs := rs) (fun i2 σ H4 => ∃ (y9 : Option V) (ll : Addr) (ls : List V) (qs : List (List PV)), σ = [some (.ref a), some (.ref kl), some (.int 4), some (.ref ml), some (.ref ra), some (.ref rl), some (.str pp.1), some tv, some (.ref ll), y9, y10, y11, none] ∧ Same H3 H4 ∧ H4 ll = some (.lst ls) ∧ IsL H4 ls (qs.map PV.tup) ∧ (∀ p ∈ qs, p.length = j + 1 ∧ ∀ t ∈ p, RVn cs n t) ∧ qs.length ≤ i2 * ks.length) ?_ ?_ ?_ ?_
        · exact ⟨_, ll, [], [], rfl, u1, upd_same, .nil, (fun p h => by cases h), by simp⟩
        · exact fun i2 σ H4 _ ⟨_, _, _, _, _, s4, _⟩ => SqL.of (s4 _ _ erl)
        · rintro i2 x2 σ H4 hx2 ⟨y9, ll, ls, qs, rfl, s4, ell, hQ, qg, ql⟩
          obtain ⟨y, ey, iy⟩ := hR.get hx2
          rw [List.getElem?_map] at ey
          obtain ⟨p, hp2, rfl⟩ := Option.map_eq_some_iff.mp ey
          obtain ⟨pa2, pvs2, rfl, ep2, pL2⟩ := id (iy.same s4).tup_inv
          obtain ⟨pgl, pgv⟩ := pg p (List.mem_of_getElem? hp2)
          have i4 : i2 < 4 := by have := (List.getElem?_eq_some_iff.mp hp2).1; omega
          have sm4 := sm3.trans s4
          have qlen := hQ.len
          rw [List.length_map] at qlen
          have p2l := pL2.len
          refine ⟨_, rfl, _, rfl, kl, rfl, ⟨_, SqL.of (sm4 _ _ ekl)⟩, fun D hD => ?_⟩
          refine lc_pickL (K := K) (a := kl) (xs := xs) ordS (fun k : KI => k.2.1 == pp.1) (fun H v (k : KI) => Is H v (kiPV k)) (fun H v (k : KI) => Is H v (.tup (p ++ [k.1]))) (fun H' s => SqL.of (s _ _ (sm4 _ _ ekl))) (isL_pair (hX.same sm4)) (fun s h => h.same s) (fun s h => h.same s) (fun e h => h.wr e) hD (by omega) (fun x y H9 Q' Z hx hy s9 y1 y0 => ?_) (fun H5 ws5 s5 eD5 p5 => ?_)
          · obtain ⟨xa, tv2, xv, rfl, ex, itv, ixv, kz⟩ := ki_inv hx
            refine ⟨rfl, _, rfl, xa, _, _, _, rfl, rfl, .inl (.inl ex), atI_nat (j := 1) rfl, _, rfl, rfl, _, rfl, ite2 (fun c => ?_) (fun c => y0 (by simpa using c) _ (.refl _))⟩
            refine ⟨_, rfl, _, rfl, xa, _, _, _, rfl, rfl, .inl (.inl ex), atI_nat (j := 0) rfl, (by show 1 ≤ sizeLine; decide), fun q hq => ?_⟩
            have s10 := same_upd hq (.tup [tv2])
            have ep10 := s10 _ _ (s9 _ _ ep2)
            have yc : (y.2.1 == pp.1) = true := by simpa using c
            refine ⟨pa2, q, pvs2, [tv2], rfl, rfl, .inl (.inl ep10), .inl (.inl upd_same), Nat.le_of_lt (small1000 (by have := (CG cs[i] (List.getElem_mem hi)).len; have := (List.getElem?_eq_some_iff.mp hpp).1; simp only [List.length_cons, List.length_nil]; omega)), fun en => ?_, (fun _ z => by cases z), fun _ _ q2 hq2 => ?_⟩
            · have pn : p = [] := by
                have : p.length = 0 := by rw [← p2l, en]; rfl
                exact List.eq_nil_of_length_eq_zero this
              rw [pn] at y1
              exact y1 yc _ _ s10 (.tup upd_same (.cons (itv.same s10) .nil))
            · have s11 := same_upd hq2 (.tup (pvs2 ++ [tv2]))
              exact y1 yc _ _ (s10.trans s11) (.tup upd_same ((((IsL.same s9 pL2).same s10).same s11).append (.cons ((itv.same s10).same s11) .nil)))
          · have fl : (ks.filter fun k => k.2.1 == pp.1).length ≤ ks.length := List.length_filter_le _ _
            have l5 := pair_len p5
            have i5 : IsL H5 ws5 (((ks.filter fun k => k.2.1 == pp.1).map fun k => p ++ [k.1]).map PV.tup) := by
              rw [List.map_map]
              exact pair_isL p5
            have mul : (i2 + 1) * ks.length = i2 * ks.length + ks.length := by rw [Nat.add_mul, Nat.one_mul]
            have b600 : i2 * ks.length ≤ 3 * 150 := Nat.mul_le_mul (by omega) k150
            refine ⟨ll, D, ls, ws5, rfl, rfl, s5 _ _ ell, eD5, Nat.le_of_lt (small1000 (by omega)), fun q hq => ?_⟩
            have s6 := same_upd hq (.lst (ls ++ ws5))
            refine ⟨_, q, _, qs ++ ((ks.filter fun k => k.2.1 == pp.1).map fun k => p ++ [k.1]), rfl, (s4.trans s5).trans s6, upd_same, ?_, fun z hz => ?_, ?_⟩
            · rw [List.map_append]
              exact ((hQ.same s5).same s6).append (i5.same s6)
            · rcases List.mem_append.mp hz with h | h
              · exact qg z h
              · obtain ⟨k, hk, rfl⟩ := List.mem_map.mp h
                refine ⟨by rw [List.length_append, pgl]; rfl, fun t ht => ?_⟩
                rcases List.mem_append.mp ht with h | h
                · exact pgv t h
                · rw [List.mem_singleton.mp h]
                  exact kg k (List.mem_filter.mp hk).1
            · rw [List.length_append, List.length_map, mul]
              omega
        · rintro σ H4 ⟨y9, ll, ls, qs, rfl, s4, ell, hQ, qg, ql⟩
          have qlen := hQ.len
          rw [List.length_map] at qlen
          refine ⟨_, rfl, _, rfl, ll, ls, rfl, .inl (SqL.of ell), _, rfl, _, _, rfl, rfl, ⟨by decide, by decide⟩, _, _, rfl, ll, ls, _, rfl, rfl, ?_, SqL.of ell, fun p ys hp sub yl => ?_⟩
          · split <;> omega
          · have u2 := same_upd hp (.lst ys)
            refine ⟨_, rfl, 4, rfl, p, ys, rfl, SqL.of upd_same, fun p2 hp2 => ?_⟩
            have u3 := same_upd hp2 (.lst (cutV ys none (some 4)))
            have s5 := s4.trans (u2.trans u3)
            have cut4 : cutV ys none (some 4) = ys.take 4 := by
              unfold cutV
              rw [show (4 : Int) = ((4 : Nat) : Int) from rfl, HT.sIx_nat, HT.sIx_none]
              simp [List.take_take, Nat.min_comm]
            obtain ⟨qs', hQ', sub'⟩ := isL_sub (hQ.same (u2.trans u3)) (ys := ys.take 4) fun y hy => sub y (List.mem_of_mem_take hy)
            have l' := hQ'.len
            rw [List.length_map] at l'
            have np2 : p2 ≠ ml := fun z => by rw [z, u2 _ _ (s4 _ _ eml3)] at hp2; cases hp2
            exact ⟨_, _, _, _, p2, _, qs', rfl, sm3.trans s5, s5 _ _ eml3, hM3.same s5, np2, by rw [upd_same, cut4], hQ', fun z hz => qg z (sub' z hz), by rw [← l', List.length_take]; omega⟩
      · rintro σ H3 ⟨y6, y7, y8, y9, rl, rs, ps, rfl, sm3, eml3, hM3, nrl3, erl, hR, pg, p4⟩
        have rlen := hR.len
        rw [List.length_map] at rlen
        refine ⟨_, rfl, rl, rfl, ⟨_, SqL.of erl⟩, ?_⟩
        refine for_list (K := K) (a := rl) (xs := rs) (fun i2 σ H4 => ∃ (y9 y10 y11 : Option V) (ms2 : List V) (ks2 : List KI), σ = [some (.ref a), some (.ref kl), some (.int 4), some (.ref ml), some (.ref ra), some (.ref rl), y6, y7, y8, y9, y10, y11, none] ∧ Same H H4 ∧ H4 rl = some (.lst rs) ∧ IsL H4 rs (ps.map PV.tup) ∧ H4 ml = some (.lst ms2) ∧ IsL H4 ms2 (ks2.map kiPV) ∧ KnG cs (n + 2) ks2 ∧ ks2.length ≤ ks.length + 4 * i + i2) ?_ ?_ ?_ ?_
        · exact ⟨_, _, _, ms, ks', rfl, sm3, erl, hR, eml3, hM3, kg', by omega⟩
        · exact fun i2 σ H4 _ ⟨_, _, _, _, _, _, _, e, _⟩ => SqL.of e
        · rintro i2 x2 σ H4 hx2 ⟨y9, y10, y11, ms2, ks2, rfl, sm4, erl4, hR4, eml4, hM4, kg4, kl4⟩
          obtain ⟨y, ey, iy⟩ := hR4.get hx2
          rw [List.getElem?_map] at ey
          obtain ⟨p, hp2, rfl⟩ := Option.map_eq_some_iff.mp ey
          obtain ⟨pa2, pvs2, rfl, ep2, pL2⟩ := id iy.tup_inv
          obtain ⟨pgl, pgv⟩ := pg p (List.mem_of_getElem? hp2)
          have i4 : i2 < 4 := by have := (List.getElem?_eq_some_iff.mp hp2).1; omega
          have p2l := pL2.len
          have c3 := cc.len
          have rv := raw_make (n := n) nd (List.getElem_mem hi) (ts := p) (by omega) pgv
          refine ⟨fun σ' H5 => ∃ va, σ' = [some (.ref a), some (.ref kl), some (.int 4), some (.ref ml), some (.ref ra), some (.ref rl), y6, y7, y8, some (.ref pa2), some (.ref va), y11, none] ∧ Same H4 H5 ∧ Is H5 (.ref va) (.tup (.str cs[i].w :: p)), ?_, ?_⟩
          · refine ⟨_, rfl, ra, _, _, _, rfl, rfl, .inl (.inl (sm4 _ _ er)), atI_nat (j := 0) rfl, (by show 1 ≤ sizeLine; decide), fun q hq => ?_⟩
            have v1 := same_upd hq (.tup [.str cs[i].w])
            refine ⟨_, rfl, q, pa2, _, pvs2, rfl, rfl, .inl (.inl upd_same), .inl (.inl (v1 _ _ ep2)), (by simp), Nat.le_of_lt (small1000 (by simp only [List.length_cons, List.length_nil]; omega)), fun en => ?_, fun _ q2 hq2 => ?_⟩
            · have pn : p = [] := by
                have : p.length = 0 := by rw [← p2l, en]; rfl
                exact List.eq_nil_of_length_eq_zero this
              subst pn
              exact ⟨q, rfl, v1, .tup upd_same (.cons (.str _ k0) .nil)⟩
            · have v2 := same_upd hq2 (.tup ([.str cs[i].w] ++ pvs2))
              exact ⟨q2, rfl, v1.trans v2, .tup upd_same (.cons (.str _ k0) (IsL.same (v1.trans v2) pL2))⟩
          · rintro σ' H5 ⟨va, rfl, s5, iva⟩
            have sm5 := sm4.trans s5
            obtain ⟨_, _, rraw, rdep⟩ := rv
            refine ⟨_, rfl, _, rfl, _, .ref va, mk, F, cs, _, rfl, hI.same sm5, G, iva, rraw, by omega, by omega, fun r H6 s6 hk => ?_⟩
            have sm6 := sm5.trans s6
            have s56 := s5.trans s6
            refine ⟨_, rfl, rfl, _, rfl, ?_⟩
            have done : ∀ H' ms3 ks3, Same H H' → H' rl = some (.lst rs) → IsL H' rs (ps.map PV.tup) → H' ml = some (.lst ms3) → IsL H' ms3 (ks3.map kiPV) → KnG cs (n + 2) ks3 → ks3.length ≤ ks2.length + 1 → ∃ (y9 y10' y11' : Option V) (ms2 : List V) (ks2 : List KI), [some (.ref a), some (.ref kl), some (.int 4), some (.ref ml), some (.ref ra), some (.ref rl), y6, y7, y8, some (.ref pa2), some (.ref va), some r, none] = [some (.ref a), some (.ref kl), some (.int 4), some (.ref ml), some (.ref ra), some (.ref rl), y6, y7, y8, y9, y10', y11', none] ∧ Same H H' ∧ H' rl = some (.lst rs) ∧ IsL H' rs (ps.map PV.tup) ∧ H' ml = some (.lst ms2) ∧ IsL H' ms2 (ks2.map kiPV) ∧ KnG cs (n + 2) ks2 ∧ ks2.length ≤ ks.length + 4 * i + (i2 + 1) := fun H' ms3 ks3 h1 h2 h3 h4 h5 h6 h7 =>
              ⟨_, _, _, ms3, ks3, rfl, h1, h2, h3, h4, h5, h6, by omega⟩
            cases ei : idxOf cs (.tup (.str cs[i].w :: p)) with
            | none =>
              rw [ei] at hk
              have er0 : r = .non := hk
              subst er0
              exact iteF (iteF (done _ _ _ sm6 (s56 _ _ erl4) (hR4.same s56) (s56 _ _ eml4) (hM4.same s56) kg4 (by omega)))
            | some z =>
              rw [ei] at hk
              obtain ⟨ia, xv, rfl, ei2, ixv, kz⟩ := pr_inv (p := z) hk
              refine iteT ?_
              have m2l := hM4.len
              rw [List.length_map] at m2l
              refine ⟨_, rfl, ml, rfl, ⟨_, SqL.of (s56 _ _ eml4)⟩, fun D hD => ?_⟩
              refine lc_pickL (K := K) (a := ml) (xs := ms2) ordS (fun k : KI => decide (some k.1 = some (.tup (.str cs[i].w :: p)))) (fun H v (k : KI) => Is H v (kiPV k)) (fun H v (k : KI) => True) (fun H' s => SqL.of (s _ _ (s56 _ _ eml4))) (isL_pair (hM4.same s56)) (fun s h => h.same s) (fun s h => trivial) (fun e h => trivial) hD (by omega) (fun x y H9 Q' Z hx hy s9 y1 y0 => ?_) (fun H7 ws7 s7 eD7 p7 => ?_)
              · obtain ⟨xa, tv2, xv2, rfl, ex, itv, ixv2, kz2⟩ := ki_inv hx
                obtain ⟨_, ey1, yraw, ydep⟩ := kg4 y hy
                have d1 : DtIs H9 tv2 (some y.1) := ⟨itv, tm_no (form_tm _ yraw), by omega⟩
                have d2 : DtIs H9 (.ref va) (some (.tup (.str cs[i].w :: p))) := ⟨(iva.same s6).same s9, tm_no (form_tm _ rraw), by omega⟩
                refine ⟨rfl, _, rfl, xa, _, _, _, rfl, rfl, .inl (.inl ex), atI_nat (j := 0) rfl, _, rfl, rEq_dt d1 d2 ⟨_, rfl, ite2 (fun c => ⟨_, rfl, y1 c _ _ (.refl _) trivial⟩) (fun c => y0 (Bool.eq_false_iff.mpr c) _ (.refl _))⟩⟩
              · refine ⟨D, ws7, rfl, .inl (SqL.of eD7), rfl, _, rfl, ?_⟩
                have s57 := s56.trans s7
                have sm7 := sm6.trans s7
                refine ite2 (fun c => ?_) (fun c => ?_)
                · have iva7 := (iva.same s6).same s7
                  refine ⟨_, rfl, .inl ⟨rfl, _, SqL.of (s57 _ _ eml4)⟩, _, rfl, _, rfl, ia, _, _, _, rfl, rfl, .inl (.inl (s7 _ _ ei2)), atI_nat (j := 0) rfl, _, rfl, ia, _, _, _, rfl, rfl, .inl (.inl (s7 _ _ ei2)), atI_nat (j := 1) rfl, (by show 3 ≤ sizeLine; decide), fun q hq => ?_⟩
                  have s8 := same_upd hq (.tup [.ref va, .str z.1, xv])
                  have s58 := s57.trans s8
                  have eml8 := s58 _ _ eml4
                  refine ⟨ml, ms2, _, rfl, rfl, eml8, small1000 (by omega), ?_⟩
                  have sm8 := sm7.trans s8
                  refine done _ (ms2 ++ [.ref q]) (ks2 ++ [(.tup (.str cs[i].w :: p), z.1, z.2)]) (Kx.Same.own sm8 hml _) (by rw [upd_ne nrl3]; exact s58 _ _ erl4) (IsL.wr eml8 (hR4.same s58)) upd_same ?_ ?_ (by simp)
                  · rw [List.map_append]
                    exact IsL.wr eml8 ((hM4.same s58).append (.cons (.tup upd_same (.cons (iva7.same s8) (.cons (.str _ kz) (.cons ((ixv.same s7).same s8) .nil)))) .nil))
                  · intro k hk2
                    rcases List.mem_append.mp hk2 with h | h
                    · exact kg4 k h
                    · rw [List.mem_singleton.mp h]
                      exact ⟨_, rfl, rraw, rdep⟩
                · exact done _ _ _ sm7 (s57 _ _ erl4) (hR4.same s57) (s57 _ _ eml4) (hM4.same s57) kg4 (by omega)
        · rintro σ H4 ⟨y9, y10, y11, ms2, ks2, rfl, sm4, erl4, hR4, eml4, hM4, kg4, kl4⟩
          exact ⟨_, _, _, _, _, _, _, _, ms2, ks2, rfl, sm4, eml4, hM4, kg4, by omega⟩
    · rintro σ H2 ⟨y4, y5, y6, y7, y8, y9, y10, y11, ms, ks', rfl, sm, eml, hM, kg', kl'⟩
      exact ⟨_, rfl, q ml H2 ms ks' sm hml eml hM kg' (by omega)⟩
end
end Kx
namespace Kx
open PySem PySem.Spec PyProof.Rows L2
section
variable {P : Program} {w : World} {K : PySem.W.Frag} {mg : Str → Option Value} {base : Heap}
/-! ### _law_values -/
def spValues : Sp := fun vs H Q _ => ∃ (v : V) (r : Nat) (mk : List PV) (F : List Str) (cs : List Con), vs = [v, .int r, .int 4] ∧ r ≤ 3 ∧ Is H v (tabPV mk F cs) ∧ TabG F cs ∧
  ∀ l H' ys ks', Same H H' → H' l = some (.lst ys) → IsL H' ys (ks'.map kiPV) → KnG cs 6 ks' → ks'.length ≤ 144 → Q (.ref l) H'
theorem ok_law_values {m : Nat} (T : Txt K mg) (G_law_grown : FnOk P w K mg base CX0 m T.a_law_grown T.d_law_grown ["table", "known", "most"] spGrown) : FnOk P w K mg base CX0 (m+1) T.a_law_values T.d_law_values ["table", "rounds", "most"] spValues := by
  refine T.F_law_values.ok sc_law_values (fun vs H Q E h => ?_) (fun cdv A outer s H vs Q E hr h => ?_)
  · obtain ⟨v, r, mk, F, cs, rfl, _⟩ := h; rfl
  · obtain ⟨v, r, mk, F, cs, rfl, r3, hI, G, q⟩ := h
    have hr_law_grown := hr
    refine ⟨_, (pss_cons (ps_set (i := 3) sc_law_values.nd rfl (Or.inl rfl) (pe_lst pa_nil))
    (pss_cons (ps_for PassesOwn.never rfl (pi_range1 (by rfl) T.z_range (pa_cons (pv 1) pa_nil)) (pg_name (i := 4) sc_law_values.nd rfl (Or.inl rfl))
    (pss_one (ps_set (i := 3) sc_law_values.nd rfl (Or.inl rfl) (pe_call G_law_grown hr_law_grown rfl T.m_law_grown T.F_law_grown.kp T.b_law_grown .nil pass0 (pa_cons (pv 0) (pa_cons (pv 3) (pa_cons (pv 2) pa_nil)))))))
    (pss_one (ps_ret (pv 3))))), ?_⟩
    refine ⟨(by show 0 ≤ sizeLine; decide), fun k0 hk0 => ?_⟩
    have s1 := same_upd hk0 (.lst [])
    refine ⟨_, rfl, _, rfl, by omega, by omega, ?_⟩
    refine for_range (n := ((r : Int)).toNat) (fun i σ H2 => ∃ (y4 : Option V) (l : Addr) (ys : List V) (ks : List KI), σ = [some v, some (.int r), some (.int 4), some (.ref l), y4] ∧ Same H H2 ∧ H2 l = some (.lst ys) ∧ IsL H2 ys (ks.map kiPV) ∧ KnG cs (2 * i) ks ∧ ks.length ≤ 48 * i) ?_ ?_ ?_
    · exact ⟨_, k0, [], [], rfl, s1, upd_same, .nil, (fun k h => by cases h), by simp⟩
    · rintro i σ H2 hi ⟨y4, l, ys, ks, rfl, sm, el, hY, kg, kl⟩
      have i3 : i < 3 := by omega
      refine ⟨_, rfl, _, rfl, _, rfl, v, l, ys, ks, mk, F, cs, 2 * i, rfl, by omega, hI.same sm, G, el, hY, kg, by omega, fun l2 H3 ys2 ks2 s3 _ el2 hY2 kg2 kl2 => ?_⟩
      exact ⟨_, l2, ys2, ks2, rfl, sm.trans s3, el2, hY2, kg2, by omega⟩
    · rintro σ H2 ⟨y4, l, ys, ks, rfl, sm, el, hY, kg, kl⟩
      exact ⟨_, rfl, q l H2 ys ks sm el hY (fun k hk => (kg k hk).mono (by omega)) (by omega)⟩
end
end Kx
namespace Kx
open PySem PySem.Spec PyProof.Rows L2
section
variable {P : Program} {w : World} {K : PySem.W.Frag} {mg : Str → Option Value} {base : Heap}
/-! ### _law_broken -/
def cutP (ts : List PV) (lo hi : Option Int) : List PV := (ts.drop (HT.sIx ts.length 0 lo)).take (HT.sIx ts.length ts.length hi - HT.sIx ts.length 0 lo)
theorem go_slA {H : Hp} {a : Addr} {xs : List V} {ts : List PV} {lo hi : Option Int} {Q : VK} (e : H a = some (.tup xs)) (i : IsL H xs ts) (q : ∀ u H', Same H H' → Is H' u (.tup (cutP ts lo hi)) → Q u H') : rSlA K (.ref a) lo hi H Q := by
  have l := i.len
  have c : IsL H (cutV xs lo hi) (cutP ts lo hi) := by
    unfold cutV cutP
    rw [← l]
    exact (i.drop _).take _
  refine ⟨a, xs, rfl, .inl (.inl e), fun hw => ?_, fun _ p hp => ?_⟩
  · refine q _ H (.refl _) (.tup e ?_)
    have w : cutV xs lo hi = xs := by
      unfold cutV
      rw [hw.1, hw.2]
      simp
    rw [w] at c
    exact c
  · have s := same_upd hp (.tup (cutV xs lo hi))
    exact q _ _ s (.tup upd_same (c.same s))
theorem go_catT {H : Hp} {a b : Addr} {xs ys : List V} {ts us : List PV} {Q : VK} (ea : H a = some (.tup xs)) (eb : H b = some (.tup ys)) (ix : IsL H xs ts) (iy : IsL H ys us) (ne : ts ≠ []) (l : ts.length + us.length ≤ 900)
    (q : ∀ u H', Same H H' → Is H' u (.tup (ts ++ us)) → Q u H') : rCatT K (.ref a) (.ref b) H Q := by
  have lx := ix.len
  have ly := iy.len
  refine ⟨a, b, xs, ys, rfl, rfl, .inl (.inl ea), .inl (.inl eb), fun z => ne ?_, Nat.le_of_lt (small1000 (by omega)), fun z => ?_, fun _ p hp => ?_⟩
  · rw [z] at lx
    exact List.eq_nil_of_length_eq_zero lx.symm
  · rw [z] at ly
    have : us = [] := List.eq_nil_of_length_eq_zero ly.symm
    rw [this, List.append_nil] at q
    exact q _ H (.refl _) (.tup ea ix)
  · have s := same_upd hp (.tup (xs ++ ys))
    exact q _ _ s (.tup upd_same ((ix.append iy).same s))
theorem no_other {F : List Str} {cs : List Con} (G : TabG F cs) : look (cnts cs) ("Other" : Str) = none := by
  rw [look_cnts]
  cases e : cs.find? (fun c => c.w == ("Other" : Str)) with
  | none => rfl
  | some c =>
    have hw : c.w = ("Other" : Str) := by simpa using List.find?_some e
    obtain ⟨i, hi, ei⟩ := List.getElem_of_mem (List.mem_of_find?_eq_some e)
    have h2 := G.cons.word i c (by rw [List.getElem?_eq_getElem hi, ei])
    have l := G.len.2
    have all : ∀ i, i < 12 → kw i ≠ ("Other" : Str) := by decide +kernel
    exact absurd (h2.symm.trans hw) (all i (by omega))
/-- another number of parts -/
theorem bad_len {cs : List Con} {w : Str} {ts us : List PV} (h : RawV cs (.tup (.str w :: ts))) (n : us.length ≠ ts.length) : form (cnts cs) false (.tup (.str w :: us)) = false := by
  unfold RawV at h
  simp only [form, Bool.and_eq_true, beq_iff_eq] at h
  have : (look (cnts cs) w == some (us.length : Int)) = false := by
    rw [h.1]
    exact beq_eq_false_iff_ne.mpr fun e => n (by have := Option.some.inj e; omega)
  simp only [form, this, Bool.false_and]
theorem bad_part {cs : List Con} {w : Str} {us : List PV} {x : PV} (hx : x ∈ us) (b : form (cnts cs) false x = false) : form (cnts cs) false (.tup (.str w :: us)) = false := by
  have : formL (cnts cs) false us = false := by
    rw [formL_all]
    exact List.all_eq_false.mpr ⟨x, hx, by rw [b]; exact Bool.false_ne_true⟩
  simp only [form, this, Bool.and_false]
theorem depL_append : ∀ a b : List PV, depL (a ++ b) = max (depL a) (depL b)
  | [], b => by simp [depL]
  | x :: r, b => by simp only [List.cons_append, depL, depL_append r b]; omega
theorem depL_sub {a b : List PV} (h : ∀ x ∈ a, x ∈ b) : depL a ≤ depL b := depL_le fun t ht => depL_mem (h t ht)
theorem cutP_init {x : PV} {ts : List PV} (h : 1 ≤ ts.length) : cutP (x :: ts) none (some (-1)) = x :: ts.take (ts.length - 1) := by
  have e : HT.sIx (x :: ts).length (x :: ts).length (some (-1)) = ts.length := by
    show (if (-1 : Int) < 0 then ((-1 : Int) + ((x :: ts).length : Int)).toNat else min (-1 : Int).toNat (x :: ts).length) = _
    rw [if_pos (by decide)]
    simp only [List.length_cons]
    omega
  unfold cutP
  have e0 : HT.sIx (x :: ts).length 0 none = 0 := rfl
  rw [e, e0]
  obtain ⟨k, hk⟩ : ∃ k, ts.length = k + 1 := ⟨ts.length - 1, by omega⟩
  rw [hk]
  simp
theorem cutP_from {ts : List PV} {k : Nat} (h : k ≤ ts.length) : cutP ts (some (k : Int)) none = ts.drop k := by
  unfold cutP
  rw [HT.sIx_nat, HT.sIx_none, Nat.min_eq_left h, List.take_of_length_le (by rw [List.length_drop]; exact Nat.le_refl _)]
theorem cutP_to {ts : List PV} {k : Nat} (h : k ≤ ts.length) : cutP ts none (some (k : Int)) = ts.take k := by
  unfold cutP
  rw [HT.sIx_nat, HT.sIx_none, Nat.min_eq_left h]
  rfl
def spBroken (n : Nat) : Sp := fun vs H Q _ => ∃ (d c : Addr) (v : V) (F : List Str) (cs : List Con) (t : List PV), vs = [.ref d, v] ∧ Dr H d c ∧ TabG F cs ∧ Is H v (.tup t) ∧ RawV cs (.tup t) ∧ dep (.tup t) ≤ n ∧ dep (.tup t) ≤ 20 ∧
  ∀ u t' H', Ex d c H H' → Dr H' d c → Is H' u t' → form (cnts cs) false t' = false → dep t' ≤ dep (.tup t) + 1 → Q u H'
theorem ok_law_broken {n : Nat} (T : Txt K mg) (G_law_broken : FnOk P w K mg base CX0 (n+2) T.a_law_broken T.d_law_broken ["state", "value"] (spBroken n)) (G_law_draw : FnOk P w K mg base CX0 1 T.a_law_draw T.d_law_draw ["state", "many"] spDraw) (G_law_pick : FnOk P w K mg base CX0 2 T.a_law_pick T.d_law_pick ["state", "row"] (spPick K)) : FnOk P w K mg base CX0 (n+3) T.a_law_broken T.d_law_broken ["state", "value"] (spBroken (n+1)) := by
  refine T.F_law_broken.ok sc_law_broken (fun vs H Q E h => ?_) (fun cdv A outer s H vs Q E hr h => ?_)
  · obtain ⟨d, c, v, F, cs, t, rfl, _⟩ := h; rfl
  · obtain ⟨d, c, v, F, cs, t, rfl, hD, G, hI, hraw, hn, h20, q⟩ := h
    have hr_law_broken := hr
    have hr_law_draw : Room 1 _ := hr.mono (by omega)
    have hr_law_pick : Room 2 _ := hr.mono (by omega)
    refine ⟨_, (pss_cons (ps_set (i := 2) sc_law_broken.nd rfl (Or.inl rfl) (pe_call G_law_draw hr_law_draw rfl T.m_law_draw T.F_law_draw.kp T.b_law_draw .nil pass0 (pa_cons (pv 0) (pa_cons pe_int pa_nil))))
    (Evl.pss_cut (ps_if (PW.pt (pw_and (pt_cmpR op_eq (pv 2) pe_int (nomark _)) (pw_and1 (pt_cmpR op_gt (pe_callB call_len_seq (by rfl) T.z_len (by decide +kernel) (pa_cons (pv 1) pa_nil)) pe_int (nomark _))))) (pss_one (ps_ret (pe_slice sl_tupA (pv 1) po_none (po_some (pe_un un_neg pe_int))))) pss_nil)
    (pss_cons (ps_if (pt_cmpR op_eq (pv 2) pe_int (nomark _)) (pss_one (ps_ret (pe_op op_catT (pv 1) (pe_tup (pa_cons (pv 1) pa_nil))))) pss_nil)
    (pss_cons (ps_if (pt_cmpR op_eq (pv 2) pe_int (nomark _)) (pss_one (ps_ret (pe_op op_catT (pv 1) (pe_tup (pa_cons (pe_tup (pa_cons pe_str pa_nil)) pa_nil))))) pss_nil)
    (pss_cons (ps_if (pt_cmpR op_eq (pv 2) pe_int (nomark _)) (pss_one (ps_ret (pe_op op_catT (pe_tup (pa_cons pe_str pa_nil)) (pe_slice sl_tupA (pv 1) (po_some pe_int) po_none)))) pss_nil)
    (pss_cons (ps_if (pt_cmpR op_eq (pv 2) pe_int (nomark _)) (pss_one (ps_ret (pe_callTy call_list_of (by rfl) T.z_list (by decide +kernel) (pa_cons (pv 1) pa_nil)))) pss_nil)
    (Evl.pss_cut (ps_if (PW.pt (pw_and (pt_cmpR op_eq (pv 2) pe_int (nomark _)) (pw_and1 (pt_cmpR op_gt (pe_callB call_len_seq (by rfl) T.z_len (by decide +kernel) (pa_cons (pv 1) pa_nil)) pe_int (nomark _))))) (pss_cons (ps_set (i := 3) sc_law_broken.nd rfl (Or.inl rfl) (pe_op op_add pe_int (pe_call G_law_draw hr_law_draw rfl T.m_law_draw T.F_law_draw.kp T.b_law_draw .nil pass0 (pa_cons (pv 0) (pa_cons (pe_op op_sub (pe_callB call_len_seq (by rfl) T.z_len (by decide +kernel) (pa_cons (pv 1) pa_nil)) pe_int) pa_nil)))))
    (pss_one (ps_ret (pe_op op_catT (pe_op op_catT (pe_slice sl_tupA (pv 1) po_none (po_some (pv 3))) (pe_tup (pa_cons (pe_call G_law_broken hr_law_broken rfl T.m_law_broken T.F_law_broken.kp T.b_law_broken .nil pass0 (pa_cons (pv 0) (pa_cons (pe_ix ix_tup (pv 1) (pv 3) (fun _ _ => rfl)) pa_nil))) pa_nil))) (pe_slice sl_tupA (pv 1) (po_some (pe_op op_add (pv 3) pe_int)) po_none))))) pss_nil)
    (pss_one (ps_ret (pe_call G_law_pick hr_law_pick rfl T.m_law_pick T.F_law_pick.kp T.b_law_pick .nil pass0 (pa_cons (pv 0) (pa_cons (pe_lst (pa_cons (pe_tup pa_nil) (pa_cons pe_non (pa_cons (pe_ix ix_tup (pv 1) pe_int (fun _ _ => rfl)) (pa_cons (pe_tup (pa_cons (pv 1) pa_nil)) (pa_cons (pe_disp (pps_cons pe_str (pv 1) pps_nil) (by rfl) (by rfl) (fun z => by cases z) (by decide)) (pa_cons (pe_op op_catT (pv 1) (pe_tup (pa_cons pe_int pa_nil))) pa_nil))))))) pa_nil)))))))))))), ?_⟩
    have CG := con_of G
    have le3 : ∀ c ∈ cs, c.ps.length ≤ 3 := fun c hc => (CG c hc).len
    obtain ⟨va, w0, us, ts, rfl, et, eva, hL, hw, h3, hvL⟩ := rvt_inv (raw_rv le3 _ hraw) hI
    cases et
    have tl := hL.len
    have hd : dep (.tup (.str w0 :: ts)) = 1 + max 1 (depL ts) := dep_cons _ _
    refine ⟨_, rfl, d, c, 7, rfl, hD, by decide, by decide, fun k H1 k0 k1 x1 D1 => ?_⟩
    have eva1 : H1 va = some (.tup (.str w0 :: us)) := x1.keep hD eva fun _ z => by cases z
    have i1 := hI.ex x1 hD
    have iw : IsL H1 (.str w0 :: us) (.str w0 :: ts) := by
      obtain ⟨_, _, e1, e2, e3⟩ := i1.tup_inv
      cases e1
      rw [eva1] at e2
      cases e2
      exact e3
    have kw0 : sok w0 = true := by
      cases iw with
      | cons h _ => cases h with
        | str _ k => exact k
    have fin : ∀ u t' H', Same H1 H' → Is H' u t' → form (cnts cs) false t' = false → dep t' ≤ dep (.tup (.str w0 :: ts)) + 1 → Q u H' := fun u t' H' s i b dd => q u t' H' (x1.trans (.of s)) (D1.same s) i b dd
    -- kind 5
    refine ⟨fun σ' H' => σ' = [some (.ref d), some (.ref va), some (.int k), none] ∧ H' = H1, ?_, ?_⟩
    · refine ⟨_, rfl, rfl, _, rfl, ite2 (fun _ => ?_) (fun _ => iteF ⟨rfl, rfl⟩)⟩
      refine ⟨_, rfl, va, _, rfl, .inr (.inl (.inl eva1)), _, _, rfl, rfl, _, rfl, ite2 (fun l1 => ?_) (fun _ => ⟨rfl, rfl⟩)⟩
      have lt : 1 ≤ ts.length := by
        have : (1 : Int) < ((V.str w0 :: us).length : Int) := by simpa using l1
        simp only [List.length_cons] at this
        omega
      refine ⟨_, rfl, 1, rfl, -1, rfl, go_slA eva1 iw fun u H' s iu => fin u _ H' s iu ?_ ?_⟩
      · rw [cutP_init lt]
        exact bad_len hraw (by rw [List.length_take]; omega)
      · rw [cutP_init lt, dep_cons, hd]
        have := depL_sub (a := ts.take (ts.length - 1)) (b := ts) fun x hx => List.mem_of_mem_take hx
        omega
    rintro σ' H' ⟨rfl, rfl⟩
    refine ⟨_, rfl, rfl, _, rfl, ite2 (fun _ => ?_) (fun _ => ?_)⟩
    · refine ⟨_, rfl, _, rfl, (by show 1 ≤ sizeLine; decide), fun p hp => ?_⟩
      have s1 := same_upd hp (.tup [.ref va])
      refine go_catT (s1 _ _ eva1) upd_same (iw.same s1) (.cons (i1.same s1) .nil) (by simp) (by simp only [List.length_cons, List.length_nil]; omega) fun u H'' s iu => fin u _ H'' (s1.trans s) iu ?_ ?_
      · exact bad_len hraw (by simp)
      · rw [List.cons_append, dep_cons, hd, depL_append]
        simp only [depL]
        omega
    refine ⟨_, rfl, rfl, _, rfl, ite2 (fun _ => ?_) (fun _ => ?_)⟩
    · refine ⟨_, rfl, (by show 1 ≤ sizeLine; decide), fun p hp => ⟨(by show 1 ≤ sizeLine; decide), fun p2 hp2 => ?_⟩⟩
      have s1 := same_upd hp (.tup [.str "Other"])
      have s2 := same_upd hp2 (.tup [.ref p])
      have s12 := s1.trans s2
      refine go_catT (s12 _ _ eva1) upd_same (iw.same s12) (.cons (.tup (s2 _ _ upd_same) (.cons (.str "Other" (by decide +kernel)) .nil)) .nil) (by simp) (by simp only [List.length_cons, List.length_nil]; omega) fun u H'' s iu => fin u _ H'' (s12.trans s) iu ?_ ?_
      · exact bad_len hraw (by simp)
      · rw [List.cons_append, dep_cons, hd, depL_append]
        simp only [depL, dep]
        omega
    refine ⟨_, rfl, rfl, _, rfl, ite2 (fun _ => ?_) (fun _ => ?_)⟩
    · refine ⟨(by show 1 ≤ sizeLine; decide), fun p hp => ?_⟩
      have s1 := same_upd hp (.tup [.str "Other"])
      refine ⟨_, rfl, 1, rfl, ?_⟩
      dsimp only [tNoPart]
      refine go_slA (lo := some 1) (hi := none) (s1 _ _ eva1) (iw.same s1) fun u H'' s2 iu => ?_
      rw [show (1 : Int) = ((1 : Nat) : Int) from rfl, cutP_from (by simp)] at iu
      obtain ⟨ua, uvs, rfl, eua, uL⟩ := iu.tup_inv
      refine go_catT (s2 _ _ upd_same) eua (.cons (.str "Other" (by decide +kernel)) .nil) uL (by simp) (by simp only [List.length_cons, List.length_nil, List.length_drop]; omega) fun u H3 s3 iu => fin u _ H3 ((s1.trans s2).trans s3) iu ?_ ?_
      · show form (cnts cs) false (.tup (.str "Other" :: ts)) = false
        simp only [form, no_other G]
        rfl
      · show dep (.tup (.str "Other" :: ts)) ≤ _
        rw [dep_cons, hd]
        omega
    refine ⟨_, rfl, rfl, _, rfl, ite2 (fun _ => ?_) (fun _ => ?_)⟩
    · refine ⟨_, rfl, va, _, rfl, .inr (.inl (.inl eva1)), fun l hl => ?_⟩
      exact fin (.ref l) .oth _ (same_upd hl _) (.lst ⟨_, upd_same⟩) rfl (by simp [dep])
    refine ⟨fun σ' H'' => σ' = [some (.ref d), some (.ref va), some (.int k), none] ∧ H'' = H', ?_, ?_⟩
    · refine ⟨_, rfl, rfl, _, rfl, ite2 (fun _ => ?_) (fun _ => iteF ⟨rfl, rfl⟩)⟩
      refine ⟨_, rfl, va, _, rfl, .inr (.inl (.inl eva1)), _, _, rfl, rfl, _, rfl, ite2 (fun l1 => ?_) (fun _ => ⟨rfl, rfl⟩)⟩
      have lt : 1 ≤ ts.length := by
        have : (1 : Int) < ((V.str w0 :: us).length : Int) := by simpa using l1
        simp only [List.length_cons] at this
        omega
      refine ⟨_, rfl, _, rfl, va, _, rfl, .inr (.inl (.inl eva1)), _, _, rfl, rfl, d, c, _, rfl, D1, ?_, ?_, fun r H2 r0 r1 x2 D2 => ⟨_, _, rfl, rfl, ?_⟩⟩
      · simp only [List.length_cons]; omega
      · simp only [List.length_cons]; omega
      obtain ⟨i, rfl⟩ : ∃ i : Nat, r = (i : Int) := ⟨r.toNat, by omega⟩
      have hi : i < ts.length := by
        have : (i : Int) < ((V.str w0 :: us).length : Int) - 1 := r1
        simp only [List.length_cons] at this
        omega
      have eva2 : H2 va = some (.tup (.str w0 :: us)) := x2.keep D1 eva1 fun _ z => by cases z
      have iw2 := IsL.ex x2 D1 iw
      refine ⟨_, rfl, _, rfl, _, rfl, ?_⟩
      refine go_slA (lo := none) (hi := some (1 + (i : Int))) eva2 iw2 fun u1 H3 s3 iu1 => ?_
      rw [show (1 + (i : Int)) = ((i + 1 : Nat) : Int) by omega, cutP_to (by simp only [List.length_cons]; omega)] at iu1
      obtain ⟨a1, w1, rfl, ea1, iL1⟩ := iu1.tup_inv
      cases iw2 with
      | @cons _ _ _ _ iw20 iL2 =>
      obtain ⟨y, ey, iy⟩ := iL2.get (List.getElem?_eq_getElem (i := i) (l := us) (by omega))
      have hy := List.mem_of_getElem? ey
      have yraw : RawV cs y := by
        obtain ⟨_, _, _, _, e⟩ := raw_con hraw
        exact e y hy
      have dy := depL_mem hy
      have yv := mem_RvL hvL y hy
      obtain ⟨wy, tsy, eyt, _⟩ := rv_inv yv
      subst eyt
      refine ⟨_, rfl, _, rfl, _, rfl, va, _, _, _, rfl, rfl, .inl (.inl (s3 _ _ eva2)), at1 (List.getElem?_eq_getElem (by omega)), d, c, _, F, cs, _, rfl, D2.same s3, G, iy.same s3, yraw, by omega, by omega, fun u2 t2 H4 x4 D4 iu2 bad2 dd2 => ⟨(by show 1 ≤ sizeLine; decide), fun p hp => ?_⟩⟩
      have s5 := same_upd hp (.tup [u2])
      have D3 := D2.same s3
      have ea1' : H4 a1 = some (.tup w1) := x4.keep D3 ea1 fun _ z => by cases z
      have l1 : ((PV.str w0 :: ts).take (i + 1)).length = i + 1 := by rw [List.length_take]; simp only [List.length_cons]; omega
      refine go_catT (s5 _ _ ea1') upd_same ((IsL.ex x4 D3 iL1).same s5) (.cons (iu2.same s5) .nil) (by simp) (by rw [l1]; simp only [List.length_cons, List.length_nil]; omega) fun u3 H6 s6 iu3 => ?_
      obtain ⟨a3, w3, rfl, ea3, iL3⟩ := iu3.tup_inv
      have eva6 : H6 va = some (.tup (.str w0 :: us)) := s6 _ _ (s5 _ _ (x4.keep D3 (s3 _ _ eva2) fun _ z => by cases z))
      have iw6 : IsL H6 (.str w0 :: us) (.str w0 :: ts) := IsL.same s6 (IsL.same s5 (IsL.ex x4 D3 (IsL.same s3 (.cons iw20 iL2))))
      refine ⟨_, rfl, _, rfl, _, _, rfl, rfl, _, rfl, ?_⟩
      dsimp only [tNoPart]
      refine go_slA (lo := some (1 + (i : Int) + 1)) (hi := none) eva6 iw6 fun u4 H7 s7 iu4 => ?_
      rw [show (1 + (i : Int) + 1) = ((i + 2 : Nat) : Int) by omega, cutP_from (by simp only [List.length_cons]; omega)] at iu4
      obtain ⟨a4, w4, rfl, ea4, iL4⟩ := iu4.tup_inv
      refine go_catT (s7 _ _ ea3) ea4 (iL3.same s7) iL4 (by simp) (by rw [List.length_append, l1, List.length_drop]; simp only [List.length_cons, List.length_nil]; omega) fun u5 H8 s8 iu5 => ?_
      have ex : Ex d c H H8 := (x1.trans (x2.trans (Ex.of s3))).trans (x4.trans (Ex.of (s5.trans (s6.trans (s7.trans s8)))))
      refine q u5 _ H8 ex (D4.same (s5.trans (s6.trans (s7.trans s8)))) iu5 ?_ ?_
      · simp only [List.take_succ_cons, List.cons_append, List.drop_succ_cons]
        exact bad_part (x := t2) (by simp) bad2
      · simp only [List.take_succ_cons, List.cons_append, List.drop_succ_cons]
        rw [dep_cons, hd, depL_append, depL_append]
        have d1 := depL_sub (a := ts.take i) (b := ts) fun x hx => List.mem_of_mem_take hx
        have d2 := depL_sub (a := ts.drop (i + 1)) (b := ts) fun x hx => List.mem_of_mem_drop hx
        simp only [depL]
        omega
    rintro σ' H'' ⟨rfl, rfl⟩
    refine ⟨_, rfl, (by show 0 ≤ sizeLine; decide), fun p0 hp0 => ?_⟩
    have u0 := same_upd hp0 (.tup [])
    refine ⟨_, rfl, va, _, _, _, rfl, rfl, .inl (.inl (u0 _ _ eva1)), atI_nat (j := 0) rfl, _, rfl, (by show 1 ≤ sizeLine; decide), fun p1 hp1 => ?_⟩
    have u1 := u0.trans (same_upd hp1 (.tup [.ref va]))
    have e1 : (upd (upd H'' p0 (.tup [])) p1 (.tup [.ref va])) p1 = some (.tup [.ref va]) := upd_same
    refine fun pd hpd => ⟨_, rfl, upd_same, [(Sum.inr "a", .ref va)], rfl, by show 1 ≤ 15; decide, ?_⟩
    have u2 := u1.trans (Kx.Same.own (same_upd hpd (.dK [])) hpd (.dK (mergeK [] [((Sum.inr "a" : Key), V.ref va)])))
    have s2 : Same (upd (upd H'' p0 (.tup [])) p1 (.tup [.ref va])) (upd (upd (upd (upd H'' p0 (.tup [])) p1 (.tup [.ref va])) pd (.dK [])) pd (.dK (mergeK [] [((Sum.inr "a" : Key), V.ref va)]))) := Kx.Same.own (same_upd hpd (.dK [])) hpd _
    have ed : (upd (upd (upd (upd H'' p0 (.tup [])) p1 (.tup [.ref va])) pd (.dK [])) pd (.dK (mergeK [] [((Sum.inr "a" : Key), V.ref va)]))) pd = some (.dK (mergeK [] [((Sum.inr "a" : Key), V.ref va)])) := upd_same
    generalize hHd : (upd (upd (upd (upd H'' p0 (.tup [])) p1 (.tup [.ref va])) pd (.dK [])) pd (.dK (mergeK [] [((Sum.inr "a" : Key), V.ref va)]))) = Hd at *
    refine ⟨_, rfl, (by show 1 ≤ sizeLine; decide), fun p2 hp2 => ?_⟩
    have s3 := same_upd hp2 (.tup [.int 1])
    refine go_catT (s3 _ _ (u2 _ _ eva1)) upd_same ((iw.same u2).same s3) (.cons (.int 1) .nil) (by simp) (by simp only [List.length_cons, List.length_nil]; omega) fun u5 H5 s5 iu5 => ?_
    have s35 := s3.trans s5
    refine ⟨(by show 6 ≤ sizeLine; decide), fun l hl => ?_⟩
    have s6 := same_upd hl (.lst [.ref p0, .non, .str w0, .ref p1, .ref pd, u5])
    have u6 := (u2.trans s35).trans s6
    have D6 := D1.same u6
    obtain ⟨nd1, nd2⟩ := (D1.same (u2.trans s35)).free hl
    refine ⟨d, c, l, _, rfl, D6, .inl upd_same, nd1, nd2, (by simp), (by simp), fun x H7 hx x7 D7 => ?_⟩
    have X7 : Ex d c H H7 := (x1.trans (.of u6)).trans x7
    have iv6 : Is (upd H5 l (.lst [.ref p0, .non, .str w0, .ref p1, .ref pd, u5])) (.ref va) (.tup (.str w0 :: ts)) := i1.same u6
    have end_ : ∀ t', Is (upd H5 l (.lst [.ref p0, .non, .str w0, .ref p1, .ref pd, u5])) x t' → form (cnts cs) false t' = false → dep t' ≤ dep (.tup (.str w0 :: ts)) + 1 → Q x H7 := fun t' i b dd => q x t' H7 X7 D7 (i.ex x7 D6) b dd
    have ep0 := s6 _ _ (s35 _ _ (s2 _ _ (same_upd hp1 (.tup [.ref va]) _ _ (upd_same (H := H'') (a := p0) (o := .tup [])))))
    have ep1 := s6 _ _ (s35 _ _ (s2 _ _ e1))
    have epd := s6 _ _ (s35 _ _ ed)
    simp only [List.mem_cons, List.not_mem_nil, or_false] at hx
    rcases hx with rfl | rfl | rfl | rfl | rfl | rfl
    · exact end_ (.tup []) (.tup ep0 .nil) rfl (by simp only [dep, depL]; omega)
    · exact end_ .oth .non rfl (by simp only [dep]; omega)
    · exact end_ (.str w0) (.str _ kw0) rfl (by simp only [dep]; omega)
    · exact end_ (.tup [.tup (.str w0 :: ts)]) (.tup ep1 (.cons iv6 .nil)) rfl (by simp only [dep, depL]; omega)
    · exact end_ .oth (.dict epd) rfl (by simp only [dep]; omega)
    · refine end_ _ (iu5.same s6) (bad_len hraw (by simp)) ?_
      rw [List.cons_append, dep_cons, hd, depL_append]
      simp only [depL, dep]
      omega
end
end Kx
namespace Kx
open PySem PySem.Spec PyProof.Rows L2
section
variable {P : Program} {w : World} {K : PySem.W.Frag} {mg : Str → Option Value} {base : Heap}
/-! ### _law_heads -/
structure Hd where
  w : Str
  ps : List (Str × PV)
  fam : Str
  ix : PV
def hdPV (h : Hd) : PV := .tup [.str h.w, .tup (h.ps.map prPV), .str h.fam, h.ix, .oth]
theorem psG_of {ps : List (Str × PV)} (l : ps.length ≤ 3) (h : ∀ p ∈ ps, form MK true p.2 = true ∧ dep p.2 ≤ 3) : PsG ps := by
  refine ⟨l, h, ?_⟩
  have fa : formL MK true (ps.map (·.2)) = true := by
    rw [formL_all]
    exact List.all_eq_true.mpr fun t ht => by obtain ⟨p, hp, rfl⟩ := List.mem_map.mp ht; exact (h p hp).1
  have a := lcL_le mk_ar _ fa
  have d : depL (ps.map (·.2)) ≤ 3 := depL_le fun t ht => by obtain ⟨p, hp, rfl⟩ := List.mem_map.mp ht; exact (h p hp).2
  have l2 : (ps.map (·.2)).length ≤ 3 := by rw [List.length_map]; exact l
  have := Nat.mul_le_mul l2 (Nat.pow_le_pow_right (by decide : 0 < 2) d)
  omega
theorem fam_mem {H : Hp} {fvs : List V} {F : List Str} (h : IsL H fvs (F.map PV.str)) {x : V} (hx : x ∈ fvs) : ∃ z, x = .str z ∧ z ∈ F := by
  obtain ⟨i, hi, ei⟩ := List.getElem_of_mem hx
  obtain ⟨t, et, it⟩ := h.get (show fvs[i]? = some x by rw [List.getElem?_eq_getElem hi, ei])
  rw [List.getElem?_map] at et
  obtain ⟨z, hz, rfl⟩ := Option.map_eq_some_iff.mp et
  exact ⟨z, it.str_inv, List.mem_of_getElem? hz⟩
theorem go_par3 {σ : L2.St} {H : Hp} {te : TE} {ta : TA} {t : PV} {i j l : Nat} {D : Ends} (m : MkE σ H te t) (q : ∀ v H', Same H H' → Is H' v t → ta σ H' fun xs H1 => ∃ u w z, v :: xs = [u, w, z] ∧ D.nx (((σ.set i (some u)).set j (some w)).set l (some z)) H1) : tPar3 i j l (tCons te ta) D σ H := m H _ (.refl _) q
theorem pg_one {x : Str} {t : PV} (h : form MK true t = true ∧ dep t ≤ 3) : PsG [(x, t)] := psG_of (by show 1 ≤ 3; decide) fun p hp => by rw [List.mem_singleton.mp hp]; exact h
theorem pg_two {x y : Str} {t u : PV} (h : form MK true t = true ∧ dep t ≤ 3) (h2 : form MK true u = true ∧ dep u ≤ 3) : PsG [(x, t), (y, u)] := psG_of (by show 2 ≤ 3; decide) fun p hp => by
  rcases List.mem_cons.mp hp with e | e
  · rw [e]; exact h
  · rw [List.mem_singleton.mp e]; exact h2
theorem fo_a : form MK true (.str "a") = true ∧ dep (.str "a") ≤ 3 := ⟨by decide +kernel, by decide +kernel⟩
theorem fo_b : form MK true (.str "b") = true ∧ dep (.str "b") ≤ 3 := ⟨by decide +kernel, by decide +kernel⟩
def sa : PV := .tup [.str "s", .str "a"]
theorem fo_s : form MK true sa = true ∧ dep sa ≤ 3 := ⟨by decide +kernel, by decide +kernel⟩
def spHeads : Sp := fun vs H Q _ => ∃ (d c : Addr) (v : V) (mk : List PV) (F : List Str) (cs : List Con), vs = [.ref d, v] ∧ Dr H d c ∧ Is H v (tabPV mk F cs) ∧ TabG F cs ∧
  ∀ l H' xs (hs : List Hd), Ex d c H H' → Dr H' d c → l ≠ d → l ≠ c → H' l = some (.lst xs) → IsL H' xs (hs.map hdPV) → (∀ h ∈ hs, PsG h.ps) → hs.length ≤ 3 → Q (.ref l) H'
theorem ok_law_heads (T : Txt K mg) (G_law_draw : FnOk P w K mg base CX0 1 T.a_law_draw T.d_law_draw ["state", "many"] spDraw) (G_law_pick : FnOk P w K mg base CX0 2 T.a_law_pick T.d_law_pick ["state", "row"] (spPick K)) : FnOk P w K mg base CX0 3 T.a_law_heads T.d_law_heads ["state", "table"] spHeads := by
  refine T.F_law_heads.ok sc_law_heads (fun vs H Q E h => ?_) (fun cdv A outer s H vs Q E hr h => ?_)
  · obtain ⟨d, c, v, mk, F, cs, rfl, _⟩ := h; rfl
  · obtain ⟨d, c, v, mk, F, cs, rfl, hD, hI, G, q⟩ := h
    have hr_law_draw : Room 1 _ := hr.mono (by decide)
    have hr_law_pick := hr
    refine ⟨_, (pss_cons (ps_set (i := 2) sc_law_heads.nd rfl (Or.inl rfl) (pe_lst pa_nil))
    (pss_cons (ps_for PassesOwn.never rfl (pi_range1 (by rfl) T.z_range (pa_cons (pe_op op_add pe_int (pe_call G_law_draw hr_law_draw rfl T.m_law_draw T.F_law_draw.kp T.b_law_draw .nil pass0 (pa_cons (pv 0) (pa_cons pe_int pa_nil)))) pa_nil)) (pg_name (i := 3) sc_law_heads.nd rfl (Or.inl rfl))
    (pss_cons (ps_par (i := 4) (j := 5) rfl sc_law_heads.nd rfl rfl (by decide) rfl rfl (pa_cons (pe_call G_law_pick hr_law_pick rfl T.m_law_pick T.F_law_pick.kp T.b_law_pick .nil pass0 (pa_cons (pv 0) (pa_cons (pe_ix ix_tup (pv 1) pe_int (fun _ _ => rfl)) pa_nil))) (pa_cons (pe_call G_law_pick hr_law_pick rfl T.m_law_pick T.F_law_pick.kp T.b_law_pick .nil pass0 (pa_cons (pv 0) (pa_cons (pe_ix ix_tup (pv 1) pe_int (fun _ _ => rfl)) pa_nil))) pa_nil)) (by rfl))
    (pss_cons (ps_set (i := 6) sc_law_heads.nd rfl (Or.inl rfl) (pe_call G_law_pick hr_law_pick rfl T.m_law_pick T.F_law_pick.kp T.b_law_pick .nil pass0 (pa_cons (pv 0) (pa_cons (pe_ix ix_tup (pv 1) pe_int (fun _ _ => rfl)) pa_nil))))
    (pss_cons (ps_set (i := 7) sc_law_heads.nd rfl (Or.inl rfl) (pe_call G_law_draw hr_law_draw rfl T.m_law_draw T.F_law_draw.kp T.b_law_draw .nil pass0 (pa_cons (pv 0) (pa_cons pe_int pa_nil))))
    (Evl.pss_cut (ps_if (pt_cmpR op_eq (pv 7) pe_int (nomark _)) (pss_one (ps_par3 (i := 8) (j := 9) (l := 10) rfl sc_law_heads.nd rfl rfl rfl (by decide) (by decide) (by decide) rfl rfl rfl (pa_cons (pe_tup (pa_cons (pe_tup (pa_cons (pv 4) (pa_cons pe_str pa_nil))) pa_nil)) (pa_cons (pv 4) (pa_cons pe_str pa_nil))) (by rfl))) (pss_one (ps_if (pt_cmpR op_eq (pv 7) pe_int (nomark _)) (pss_one (ps_par3 (i := 8) (j := 9) (l := 10) rfl sc_law_heads.nd rfl rfl rfl (by decide) (by decide) (by decide) rfl rfl rfl (pa_cons (pe_tup (pa_cons (pe_tup (pa_cons (pv 4) (pa_cons pe_str pa_nil))) (pa_cons (pe_tup (pa_cons (pv 5) (pa_cons pe_str pa_nil))) pa_nil))) (pa_cons (pv 4) (pa_cons pe_str pa_nil))) (by rfl))) (pss_one (ps_if (pt_cmpR op_eq (pv 7) pe_int (nomark _)) (pss_one (ps_par3 (i := 8) (j := 9) (l := 10) rfl sc_law_heads.nd rfl rfl rfl (by decide) (by decide) (by decide) rfl rfl rfl (pa_cons (pe_tup (pa_cons (pe_tup (pa_cons (pv 4) (pa_cons pe_str pa_nil))) (pa_cons (pe_tup (pa_cons (pv 5) (pa_cons pe_str pa_nil))) pa_nil))) (pa_cons (pv 5) (pa_cons pe_str pa_nil))) (by rfl))) (pss_one (ps_if (pt_cmpR op_eq (pv 7) pe_int (nomark _)) (pss_one (ps_par3 (i := 8) (j := 9) (l := 10) rfl sc_law_heads.nd rfl rfl rfl (by decide) (by decide) (by decide) rfl rfl rfl (pa_cons (pe_tup (pa_cons (pe_tup (pa_cons (pv 4) (pa_cons (pe_tup (pa_cons pe_str (pa_cons pe_str pa_nil))) pa_nil))) pa_nil)) (pa_cons (pv 6) (pa_cons pe_str pa_nil))) (by rfl))) (pss_one (ps_if (pt_cmpR op_eq (pv 7) pe_int (nomark _)) (pss_one (ps_par3 (i := 8) (j := 9) (l := 10) rfl sc_law_heads.nd rfl rfl rfl (by decide) (by decide) (by decide) rfl rfl rfl (pa_cons (pe_tup (pa_cons (pe_tup (pa_cons (pv 4) (pa_cons pe_str pa_nil))) (pa_cons (pe_tup (pa_cons (pv 5) (pa_cons (pe_tup (pa_cons pe_str (pa_cons pe_str pa_nil))) pa_nil))) pa_nil))) (pa_cons (pv 6) (pa_cons (pe_ix ix_list (pe_lst (pa_cons (pe_tup (pa_cons pe_str (pa_cons pe_str pa_nil))) (pa_cons pe_str pa_nil))) (pe_call G_law_draw hr_law_draw rfl T.m_law_draw T.F_law_draw.kp T.b_law_draw .nil pass0 (pa_cons (pv 0) (pa_cons pe_int pa_nil))) (fun _ _ => rfl)) pa_nil))) (by rfl))) (pss_one (ps_par3 (i := 8) (j := 9) (l := 10) rfl sc_law_heads.nd rfl rfl rfl (by decide) (by decide) (by decide) rfl rfl rfl (pa_cons (pe_tup (pa_cons (pe_tup (pa_cons (pv 4) (pa_cons pe_str pa_nil))) pa_nil)) (pa_cons (pv 6) (pa_cons (pe_ix ix_list (pe_lst (pa_cons pe_str (pa_cons (pe_tup (pa_cons pe_str (pa_cons pe_str pa_nil))) (pa_cons (pe_tup (pa_cons pe_str pa_nil)) pa_nil)))) (pe_call G_law_draw hr_law_draw rfl T.m_law_draw T.F_law_draw.kp T.b_law_draw .nil pass0 (pa_cons (pv 0) (pa_cons pe_int pa_nil))) (fun _ _ => rfl)) pa_nil))) (by rfl))))))))))))
    (pss_one (ps_expr (pe_bm PySem.F.plainAttrs_list PySem.F.slot_list_append PySem.F.type_list_append mt_append (pv 2) (pa_cons (pe_tup (pa_cons (pe_op op_add_str pe_str (pe_callTy call_str_int (by rfl) T.z_str (by decide +kernel) (pa_cons (pv 3) pa_nil))) (pa_cons (pv 8) (pa_cons (pv 9) (pa_cons (pv 10) (pa_cons (pe_call G_law_draw hr_law_draw rfl T.m_law_draw T.F_law_draw.kp T.b_law_draw .nil pass0 (pa_cons (pv 0) (pa_cons (pe_callB call_len_seq (by rfl) T.z_len (by decide +kernel) (pa_cons (pv 8) pa_nil)) pa_nil))) pa_nil)))))) pa_nil)))))))))
    (pss_one (ps_ret (pv 2))))), ?_⟩
    obtain ⟨a, v0, v1, fa, ca, fvs, cvs, rfl, ea, ef, fL, ec, cL⟩ := tab_inv hI
    have fl := fL.len
    rw [List.length_map] at fl
    have f4 := G.fl
    refine ⟨(by show 0 ≤ sizeLine; decide), fun hl hhl => ?_⟩
    have s1 := same_upd hhl (.lst [])
    obtain ⟨n1, n2⟩ := hD.free hhl
    refine ⟨_, rfl, d, c, 3, rfl, hD.same s1, by decide, by decide, fun r H1 r0 r1 x1 D1 => ⟨_, _, rfl, rfl, ?_⟩⟩
    have nfd : fa ≠ d := by
      obtain ⟨⟨ys, e⟩, _⟩ := hD.lst
      exact ne_of ef e (fun z => nomatch z)
    have nfc : fa ≠ c := by
      obtain ⟨_, ⟨ys, e⟩⟩ := hD.lst
      exact ne_of ef e (fun z => nomatch z)
    have X1 : Ex d c H H1 := (Ex.of s1).trans x1
    refine ⟨_, rfl, by omega, by omega, ?_⟩
    refine for_range (n := (1 + r).toNat) (fun i σ H2 => ∃ (y3 y4 y5 y6 y7 y8 y9 y10 : Option V) (xs : List V) (hs : List Hd), σ = [some (.ref d), some (.ref a), some (.ref hl), y3, y4, y5, y6, y7, y8, y9, y10] ∧ Ex d c H H2 ∧ Dr H2 d c ∧ H2 hl = some (.lst xs) ∧ IsL H2 xs (hs.map hdPV) ∧ (∀ h ∈ hs, PsG h.ps) ∧ hs.length = i) ?_ ?_ ?_
    · exact ⟨_, _, _, _, _, _, _, _, [], [], rfl, X1, D1, x1.but _ _ n1 n2 upd_same, .nil, (fun h z => by cases z), rfl⟩
    · rintro i σ H2 hi ⟨y3, y4, y5, y6, y7, y8, y9, y10, xs, hs, rfl, X2, D2, el, hX, hG, hn⟩
      have i3 : i < 3 := by omega
      have ea2 := X2.keep hD ea fun _ z => by cases z
      have ef2 := X2.keep hD ef fun _ z => by cases z
      refine ⟨_, rfl, _, rfl, a, _, _, _, rfl, rfl, .inl (.inl ea2), atI_nat (j := 2) rfl, d, c, fa, fvs, rfl, D2, .inr (.inl (.inl ef2)), nfd, nfc, by rw [fl]; omega, by rw [fl]; omega, fun x H3 hx x3 D3 => ?_⟩
      have ea3 := x3.keep D2 ea2 fun _ z => by cases z
      have ef3 := x3.keep D2 ef2 fun _ z => by cases z
      refine ⟨_, rfl, _, rfl, a, _, _, _, rfl, rfl, .inl (.inl ea3), atI_nat (j := 2) rfl, d, c, fa, fvs, rfl, D3, .inr (.inl (.inl ef3)), nfd, nfc, by rw [fl]; omega, by rw [fl]; omega, fun y H4 hy x4 D4 => ?_⟩
      refine ⟨_, _, rfl, ?_⟩
      obtain ⟨one_, rfl, h1⟩ := fam_mem fL hx
      obtain ⟨two_, rfl, h2⟩ := fam_mem fL hy
      have ea5 := x4.keep D3 ea3 fun _ z => by cases z
      have ef5 := x4.keep D3 ef3 fun _ z => by cases z
      have D5 := D4
      refine ⟨_, rfl, _, rfl, a, _, _, _, rfl, rfl, .inl (.inl ea5), atI_nat (j := 2) rfl, d, c, fa, fvs, rfl, D5, .inr (.inl (.inl ef5)), nfd, nfc, by rw [fl]; omega, by rw [fl]; omega, fun z H6 hz x6 D6 => ?_⟩
      obtain ⟨made, rfl, h3⟩ := fam_mem fL hz
      refine ⟨_, rfl, d, c, 6, rfl, D6, by decide, by decide, fun k H7 k0 k1 x7 D7 => ?_⟩
      have X7 : Ex d c H2 H7 := (x3.trans x4).trans (x6.trans x7)
      have o1 := G.ok _ h1
      have o2 := G.ok _ h2
      have o3 := G.ok _ h3
      refine ⟨fun σ' H' => ∃ pa iv ps fam ix, σ' = [some (.ref d), some (.ref a), some (.ref hl), some (.int (0 + (i : Int))), some (.str one_), some (.str two_), some (.str made), some (.int k), some (.ref pa), some (.str fam), some iv] ∧ Ex d c H7 H' ∧ Dr H' d c ∧ Is H' (.ref pa) (.tup (ps.map prPV)) ∧ PsG ps ∧ sok fam = true ∧ Is H' iv ix ∧ 1 ≤ ps.length, ?_, ?_⟩
      · have j1 : Is H7 (.str one_) (.str one_) := .str _ o1
        have j2 : Is H7 (.str two_) (.str two_) := .str _ o2
        have j3 : Is H7 (.str made) (.str made) := .str _ o3
        refine ⟨_, rfl, rfl, _, rfl, ite2 (fun _ => ?_) (fun _ => ?_)⟩
        · refine go_par3 (t := .tup ([(one_, .str "a")].map prPV)) (by
          show MkE _ _ _ (.tup _)
          (repeat (first | exact mk_nil | refine mk_cons ?_ ?_ | refine mk_tup ?_ (by simp) | exact mk_str (by decide +kernel) | (refine mk_var rfl ?_; assumption)))) fun v H' s i => ?_
          obtain ⟨pa, pvs, rfl, ep, pL⟩ := id i.tup_inv
          exact ⟨_, rfl, _, _, _, rfl, pa, .str "a", [(one_, .str "a")], one_, .str "a", rfl, .of s, D7.same s, i, (pg_one fo_a), o1, .str _ (by decide +kernel), Nat.succ_le_succ (Nat.zero_le _)⟩
        refine ⟨_, rfl, rfl, _, rfl, ite2 (fun _ => ?_) (fun _ => ?_)⟩
        · refine go_par3 (t := .tup ([(one_, .str "a"), (two_, .str "a")].map prPV)) (by
          show MkE _ _ _ (.tup _)
          (repeat (first | exact mk_nil | refine mk_cons ?_ ?_ | refine mk_tup ?_ (by simp) | exact mk_str (by decide +kernel) | (refine mk_var rfl ?_; assumption)))) fun v H' s i => ?_
          obtain ⟨pa, pvs, rfl, ep, pL⟩ := id i.tup_inv
          exact ⟨_, rfl, _, _, _, rfl, pa, .str "a", [(one_, .str "a"), (two_, .str "a")], one_, .str "a", rfl, .of s, D7.same s, i, (pg_two fo_a fo_a), o1, .str _ (by decide +kernel), Nat.succ_le_succ (Nat.zero_le _)⟩
        refine ⟨_, rfl, rfl, _, rfl, ite2 (fun _ => ?_) (fun _ => ?_)⟩
        · refine go_par3 (t := .tup ([(one_, .str "a"), (two_, .str "b")].map prPV)) (by
          show MkE _ _ _ (.tup _)
          (repeat (first | exact mk_nil | refine mk_cons ?_ ?_ | refine mk_tup ?_ (by simp) | exact mk_str (by decide +kernel) | (refine mk_var rfl ?_; assumption)))) fun v H' s i => ?_
          obtain ⟨pa, pvs, rfl, ep, pL⟩ := id i.tup_inv
          exact ⟨_, rfl, _, _, _, rfl, pa, .str "b", [(one_, .str "a"), (two_, .str "b")], two_, .str "b", rfl, .of s, D7.same s, i, (pg_two fo_a fo_b), o2, .str _ (by decide +kernel), Nat.succ_le_succ (Nat.zero_le _)⟩
        refine ⟨_, rfl, rfl, _, rfl, ite2 (fun _ => ?_) (fun _ => ?_)⟩
        · refine go_par3 (t := .tup ([(one_, sa)].map prPV)) (by
          show MkE _ _ _ (.tup _)
          (repeat (first | exact mk_nil | refine mk_cons ?_ ?_ | refine mk_tup ?_ (by simp) | exact mk_str (by decide +kernel) | (refine mk_var rfl ?_; assumption)))) fun v H' s i => ?_
          obtain ⟨pa, pvs, rfl, ep, pL⟩ := id i.tup_inv
          exact ⟨_, rfl, _, _, _, rfl, pa, .str "a", [(one_, sa)], made, .str "a", rfl, .of s, D7.same s, i, (pg_one fo_s), o3, .str _ (by decide +kernel), Nat.succ_le_succ (Nat.zero_le _)⟩
        refine ⟨_, rfl, rfl, _, rfl, ite2 (fun _ => ?_) (fun _ => ?_)⟩
        · refine go_par3 (t := .tup ([(one_, .str "a"), (two_, sa)].map prPV)) (by
          show MkE _ _ _ (.tup _)
          (repeat (first | exact mk_nil | refine mk_cons ?_ ?_ | refine mk_tup ?_ (by simp) | exact mk_str (by decide +kernel) | (refine mk_var rfl ?_; assumption)))) fun v H' s i => ?_
          obtain ⟨pa, pvs, rfl, ep, pL⟩ := id i.tup_inv
          refine ⟨_, rfl, (by show 2 ≤ sizeLine; decide), fun p hp => ⟨(by show 2 ≤ sizeLine; decide), fun l hl => ?_⟩⟩
          have s2 := same_upd hp (.tup [.str "s", .str "a"])
          have s3 := same_upd hl (.lst [.ref p, .str "a"])
          have s23 := s2.trans s3
          have D8 := (D7.same s).same s23
          obtain ⟨m1, m2⟩ := ((D7.same s).same s2).free hl
          have isa : Is (upd (upd H' p (.tup [.str "s", .str "a"])) l (.lst [.ref p, .str "a"])) (.ref p) sa := .tup (s3 _ _ upd_same) (.cons (.str _ (by decide +kernel)) (.cons (.str _ (by decide +kernel)) .nil))
          refine ⟨_, rfl, d, c, 2, rfl, D8, by decide, by decide, fun r H9 r0 r1 x9 D9 => ?_⟩
          have el9 := x9.but _ _ m1 m2 upd_same
          have X9 : Ex d c H7 H9 := (Ex.of (s.trans s23)).trans x9
          have i9 := (i.same s23).ex x9 D8
          rcases (show r = 0 ∨ r = 1 by omega) with rfl | rfl
          · exact ⟨l, _, _, _, rfl, rfl, SqL.of el9, atI_nat (j := 0) rfl, _, _, _, rfl, pa, _, _, made, sa, rfl, X9, D9, i9, pg_two fo_a fo_s, o3, isa.ex x9 D8, Nat.succ_le_succ (Nat.zero_le _)⟩
          · exact ⟨l, _, _, _, rfl, rfl, SqL.of el9, atI_nat (j := 1) rfl, _, _, _, rfl, pa, _, _, made, .str "a", rfl, X9, D9, i9, pg_two fo_a fo_s, o3, .str _ (by decide +kernel), Nat.succ_le_succ (Nat.zero_le _)⟩
        · refine go_par3 (t := .tup ([(one_, .str "a")].map prPV)) (by
          show MkE _ _ _ (.tup _)
          (repeat (first | exact mk_nil | refine mk_cons ?_ ?_ | refine mk_tup ?_ (by simp) | exact mk_str (by decide +kernel) | (refine mk_var rfl ?_; assumption)))) fun v H' s i => ?_
          obtain ⟨pa, pvs, rfl, ep, pL⟩ := id i.tup_inv
          refine ⟨_, rfl, (by show 2 ≤ sizeLine; decide), fun p hp => ⟨(by show 1 ≤ sizeLine; decide), fun p2 hp2 => ⟨(by show 3 ≤ sizeLine; decide), fun l hl => ?_⟩⟩⟩
          have s2 := same_upd hp (.tup [.str "s", .str "a"])
          have s2' := same_upd hp2 (.tup [.str "z"])
          have s3 := same_upd hl (.lst [.str "a", .ref p, .ref p2])
          have s23 := (s2.trans s2').trans s3
          have D8 := (D7.same s).same s23
          obtain ⟨m1, m2⟩ := ((D7.same s).same (s2.trans s2')).free hl
          have isa : Is (upd (upd (upd H' p (.tup [.str "s", .str "a"])) p2 (.tup [.str "z"])) l (.lst [.str "a", .ref p, .ref p2])) (.ref p) sa := .tup (s3 _ _ (s2' _ _ upd_same)) (.cons (.str _ (by decide +kernel)) (.cons (.str _ (by decide +kernel)) .nil))
          have isz : Is (upd (upd (upd H' p (.tup [.str "s", .str "a"])) p2 (.tup [.str "z"])) l (.lst [.str "a", .ref p, .ref p2])) (.ref p2) (.tup [.str "z"]) := .tup (s3 _ _ upd_same) (.cons (.str _ (by decide +kernel)) .nil)
          refine ⟨_, rfl, d, c, 3, rfl, D8, by decide, by decide, fun r H9 r0 r1 x9 D9 => ?_⟩
          have el9 := x9.but _ _ m1 m2 upd_same
          have X9 : Ex d c H7 H9 := (Ex.of (s.trans s23)).trans x9
          have i9 := (i.same s23).ex x9 D8
          rcases (show r = 0 ∨ r = 1 ∨ r = 2 by omega) with rfl | rfl | rfl
          · exact ⟨l, _, _, _, rfl, rfl, SqL.of el9, atI_nat (j := 0) rfl, _, _, _, rfl, pa, _, _, made, .str "a", rfl, X9, D9, i9, pg_one fo_a, o3, .str _ (by decide +kernel), Nat.succ_le_succ (Nat.zero_le _)⟩
          · exact ⟨l, _, _, _, rfl, rfl, SqL.of el9, atI_nat (j := 1) rfl, _, _, _, rfl, pa, _, _, made, sa, rfl, X9, D9, i9, pg_one fo_a, o3, isa.ex x9 D8, Nat.succ_le_succ (Nat.zero_le _)⟩
          · exact ⟨l, _, _, _, rfl, rfl, SqL.of el9, atI_nat (j := 2) rfl, _, _, _, rfl, pa, _, _, made, .tup [.str "z"], rfl, X9, D9, i9, pg_one fo_a, o3, isz.ex x9 D8, Nat.succ_le_succ (Nat.zero_le _)⟩
      · rintro σ' H' ⟨pa, iv, ps, fam, ix, rfl, x8, D8, iP, pg, kf, iX, ps1⟩
        have nhd := n1
        have elN : H' hl = some (.lst xs) := x8.but _ _ n1 n2 (X7.but _ _ n1 n2 el)
        have kw12 : sok (("f" : Str) ++ toString (i : Int)) = true := by
          have all : ∀ i : Nat, i < 3 → sok (("f" : Str) ++ toString ((i : Nat) : Int)) = true := by decide +kernel
          exact all i i3
        have ez : (0 + (i : Int)) = (i : Int) := Int.zero_add _
        have nl : ∀ j : Nat, j < 3 → ((j : Nat) : Int).natAbs.log2 < 1920 := by decide +kernel
        have ln : ∀ j : Nat, j < 3 → ("f" : Str).length + (toString ((j : Nat) : Int) : Str).length ≤ sizeLine := by decide +kernel
        obtain ⟨_, pvs, epa, ep, pL⟩ := id iP.tup_inv
        cases epa
        have pvl := pL.len
        rw [List.length_map] at pvl
        have p3 := pg.len
        refine ⟨_, rfl, .inl ⟨rfl, _, SqL.of elN⟩, _, rfl, _, rfl, by rw [ez]; exact nl _ i3, _, _, rfl, rfl, by rw [ez]; exact ln _ i3, _, rfl, _, rfl, _, rfl, _, rfl, _, rfl, pa, _, rfl, .inr (.inl (.inl ep)), d, c, _, rfl, D8, by omega, by omega, fun r2 H9 r20 r21 x9 D9 => ⟨(by show 5 ≤ sizeLine; decide), fun p hp => ?_⟩⟩
        have el9 := x9.but _ _ n1 n2 elN
        have s10 := same_upd hp (.tup [.str (("f" : Str) ++ toString (0 + (i : Int))), .ref pa, .str fam, iv, .int r2])
        have el10 := s10 _ _ el9
        have xl := hX.len
        rw [List.length_map] at xl
        refine ⟨hl, xs, _, rfl, rfl, el10, small1000 (by omega), ?_⟩
        have X10 : Ex d c H2 _ := (X7.trans x8).trans (x9.trans (.of s10))
        have hX10 := (((IsL.ex X7 D2 hX).ex x8 D7).ex x9 D8).same s10
        have nhd : hl ≠ d := n1
        refine ⟨_, _, _, _, _, _, _, _, xs ++ [.ref p], hs ++ [⟨("f" : Str) ++ toString (0 + (i : Int)), ps, fam, ix⟩], rfl, (X2.trans X10).own hhl _, (D9.same s10).own n1 n2, upd_same, ?_, ?_, by rw [List.length_append, hn]; rfl⟩
        · rw [List.map_append]
          refine IsL.wr el10 (hX10.append (.cons (.tup upd_same (.cons (.str _ (by rw [ez]; exact kw12)) (.cons ((iP.ex x9 D8).same s10) (.cons (.str _ kf) (.cons ((iX.ex x9 D8).same s10) (.cons (.int _) .nil)))))) .nil))
        · intro h hh
          rcases List.mem_append.mp hh with z | z
          · exact hG h z
          · rw [List.mem_singleton.mp z]; exact pg
    · rintro σ H2 ⟨y3, y4, y5, y6, y7, y8, y9, y10, xs, hs, rfl, X2, D2, el, hX, hG, hn⟩
      exact ⟨_, rfl, q hl H2 xs hs X2 D2 n1 n2 el hX hG (by omega)⟩
end
end Kx
namespace Kx
open PySem PySem.Spec PyProof.Rows L2
section
variable {P : Program} {w : World} {K : PySem.W.Frag} {mg : Str → Option Value} {base : Heap}
/-! ### the law -/
theorem tabs_ex {TT : List (Addr × Str)} {d c : Addr} {H H' : Hp} (x : Ex d c H H') (D : Dr H d c) (t : LamX.Tabs TT H) : LamX.Tabs TT H' := fun p hp => by
  obtain ⟨ps, h1, h2, h3⟩ := t p hp
  exact ⟨ps, x.keep D h1 (fun _ z => by cases z), h2, fun pos cv hc => by
    obtain ⟨k, e1, e2⟩ := h3 pos cv hc
    exact ⟨k, e1, x.keep D e2 fun _ z => by unfold LamX.CodeO at z; cases z⟩⟩
theorem Dr.sx {TT : List (Addr × Str)} {d c : Addr} {H H' : Hp} (s : Sx TT H H') (D : Dr H d c) : Dr H' d c := by
  obtain ⟨ns, m, e, e2, r⟩ := D
  exact ⟨ns, m, s.li e, s.li e2, r⟩
/-- what stands while the law goes on: the tables, the draws, the table, what is known -/
structure Wd (TT : List (Addr × Str)) (d c : Addr) (tv : V) (kl : Addr) (mk : List PV) (F : List Str) (cs : List Con) (ts : List PV) (H : Hp) : Prop where
  tab : LamX.Tabs TT H
  dr : Dr H d c
  it : Is H tv (tabPV mk F cs)
  kn : ∃ vs, H kl = some (.lst vs) ∧ IsL H vs ts
  nd : kl ≠ d
  nc : kl ≠ c
section
variable {TT : List (Addr × Str)} {d c kl : Addr} {tv : V} {mk : List PV} {F : List Str} {cs : List Con} {ts : List PV} {H H' : Hp}
theorem Wd.ex (x : Ex d c H H') (W : Wd TT d c tv kl mk F cs ts H) (D : Dr H' d c) : Wd TT d c tv kl mk F cs ts H' := by
  obtain ⟨vs, e, i⟩ := W.kn
  exact ⟨tabs_ex x W.dr W.tab, D, W.it.ex x W.dr, ⟨vs, x.but _ _ W.nd W.nc e, IsL.ex x W.dr i⟩, W.nd, W.nc⟩
theorem Wd.sx (s : Sx TT H H') (W : Wd TT d c tv kl mk F cs ts H) : Wd TT d c tv kl mk F cs ts H' := by
  obtain ⟨vs, e, i⟩ := W.kn
  exact ⟨s.t W.tab, W.dr.sx s, W.it.sx s, ⟨vs, s.li e, IsL.sx s i⟩, W.nd, W.nc⟩
theorem Wd.same (s : Same H H') (W : Wd TT d c tv kl mk F cs ts H) : Wd TT d c tv kl mk F cs ts H' := W.sx (.of s)
end
theorem no_left {f : Addr} {fd : FuncData} {ps : List Str} {k : Nat} {sp : Sp} (no : ∀ vs H Q E, ¬ sp vs H Q E) : FnOk P w K mg base CX0 k f fd ps sp :=
  ⟨fun vs H Q E h => absurd h (no vs H Q E), fun A outer s H args us vs Q E _ _ _ _ h => absurd h (no vs H Q E)⟩
theorem all_folded (T : Txt K mg) (k : Nat) : ∀ n, FnOk P w K mg base CX0 (n + k + 2) T.a_folded_ T.d_folded_ ["tree", "reckon", "kept"] (spFold_ P w K mg base T.c_Kept k n)
  | 0 => no_left fun vs H Q E ⟨_, t, _, _, _, _, _, _, _, _, _, _, _, _, _, _, _, _, _, _, h, _⟩ => by have := dep_pos (.tup t); omega
  | n + 1 => by
    have r := ok_folded_ T (n := n) (k := k) (all_folded T k n) (ok_Kept_pair_of T) (ok_Kept_keep T)
    exact FnOk.mono r (by omega)
theorem all_put (T : Txt K mg) : ∀ n, FnOk P w K mg base CX0 (n + 1) T.a_put T.d_put ["term", "assignment"] (spPut n)
  | 0 => no_left fun vs H Q E ⟨_, _, _, t, _, _, _, _, _, _, h, _⟩ => by have := dep_pos t; omega
  | n + 1 => ok_put T (all_put T n)
theorem all_lput (T : Txt K mg) : ∀ n, FnOk P w K mg base CX0 (n + 1) T.a_law_put T.d_law_put ["term", "trees"] (spLPut n)
  | 0 => no_left fun vs H Q E ⟨_, _, _, t, _, _, _, _, _, _, _, h, _⟩ => by have := dep_pos t; omega
  | n + 1 => ok_law_put T (all_lput T n)
theorem all_fits (T : Txt K mg) : ∀ n, FnOk P w K mg base CX0 (n + 1) T.a_fits T.d_fits ["pattern", "term", "found"] (spFit n)
  | 0 => no_left fun vs H Q E ⟨_, _, _, _, p, _, _, _, _, _, _, _, _, _, _, h, _⟩ => by have := dep_pos p; omega
  | n + 1 => ok_fits T (all_fits T n)
theorem all_form (T : Txt K mg) : ∀ n, FnOk P w K mg base CX0 (n + 1) T.a_has_form T.d_has_form ["parts_by_word", "value", "may_have_names", "kept"] (spForm T.c_Kept n)
  | 0 => no_left fun vs H Q E ⟨_, _, _, t, _, _, _, _, _, _, _, _, h, _⟩ => by have := dep_pos t; omega
  | n + 1 => ok_has_form T (all_form T n) (ok_Kept_pair_of T) (ok_Kept_keep T)
theorem all_lsize (T : Txt K mg) : ∀ n, FnOk P w K mg base CX0 (n + 1) T.a_law_size T.d_law_size ["value"] (spLSize n)
  | 0 => no_left fun vs H Q E ⟨_, t, _, _, _, _, h, _⟩ => by have := dep_pos (.tup t); omega
  | n + 1 => ok_law_size T (all_lsize T n)
theorem all_broken (T : Txt K mg) : ∀ n, FnOk P w K mg base CX0 (n + 2) T.a_law_broken T.d_law_broken ["state", "value"] (spBroken n)
  | 0 => no_left fun vs H Q E ⟨_, _, _, _, _, t, _, _, _, _, _, h, _⟩ => by have := dep_pos (.tup t); omega
  | n + 1 => ok_law_broken T (all_broken T n) (ok_law_draw T) (ok_law_pick T (ok_law_draw T))
theorem all_idx (T : Txt K mg) : ∀ n, FnOk P w K mg base CX0 (n + 4) T.a_law_index T.d_law_index ["table", "value"] (spLIdx n)
  | 0 => no_left fun vs H Q E ⟨_, _, _, _, _, t, _, _, _, _, _, h, _⟩ => by have := dep_pos (.tup t); omega
  | n + 1 => ok_law_index T (all_idx T n) (ok_law_fit T) (all_lput T 3)
theorem the_fitted (T : Txt K mg) : FnOk P w K mg base CX0 5 T.a_fitted T.d_fitted ["patterns", "terms"] (spFitted 3) := ok_fitted T (all_fits T 3)
theorem the_trees (T : Txt K mg) : FnOk P w K mg base CX0 6 T.a_trees_for T.d_trees_for ["asked", "kinds"] (spTrees 3) := ok_trees_for T (the_fitted T)
theorem the_made (T : Txt K mg) : FnOk P w K mg base CX0 8 T.a_made_kind T.d_made_kind ["constructor", "kinds"] spMade := ok_made_kind T (the_trees T) (FnOk.mono (all_put T 3) (by decide))
theorem the_folded (T : Txt K mg) (k : Nat) : FnOk P w K mg base CX0 (20 + k + 3) T.a_folded T.d_folded ["tree", "reckon"] (spFolded P w K mg base k 20) := ok_folded T (all_folded T k 20) (ok_Kept_init T)
theorem the_raw (T : Txt K mg) : FnOk P w K mg base CX0 44 T.a_is_raw T.d_is_raw ["table", "value"] (spRaw 40) := ok_is_raw (k := 43) (by decide) T (ok_is_tree (k := 40) T (FnOk.mono (all_form T 40) (by decide)) (ok_Kept_init T)) (ok_counts T)
end
end Kx
/-! != of two dicts of the same data. -/
namespace Kx
open PySem PySem.Spec PyProof.Rows L2
theorem fin_blD {X : Cx} {pins : List (Addr × Obj)} {σ : L2.St} {H : Hp} {s : Shared} {Q : VK} (I : Inv X pins σ H s) {b c : Bool} (q : Q (.bl b) H) (e : c = b) : EP X pins σ Q (.bool c) s := ⟨.bl b, H, I, by rw [e]; rfl, q⟩
/-- all that stands in the one stands in the other -/
theorem hits_data {A : Around} {X : Cx} {pins : List (Addr × Obj)} {σ : L2.St} {H : Hp} {s : Shared} (I : Inv X pins σ H s) (hu : A.units + 195 < cLine) {ls : List (Key × V)} {vb : List (Key × Value)} (rb : KV ls vb) :
    ∀ {ks : List (Key × V)} {va : List (Key × Value)}, KV ks va → (∀ p ∈ ks, ∃ v t, valV ls p.1 = some v ∧ Is H p.2 t ∧ Is H v t ∧ NoO t ∧ dep t ≤ 190) → PySem.W.KeqHits A s vb va true
  | _, _, .nil, _ => .nil
  | _, _, .cons (a := p) (b := q) ⟨e, ry⟩ t, h => by
    obtain ⟨v, d, h1, h2, h3, no, h4⟩ := h p (List.mem_cons_self ..)
    have k := hits_data I hu rb t fun p' hm => h p' (List.mem_cons_of_mem _ hm)
    obtain ⟨q1, q2⟩ := q
    simp only at e ry
    subst e
    have z := rb.val p.1
    rw [h1] at z
    cases hv : valueAt vb p.1 with
    | none => rw [hv] at z; exact (show False from z).elim
    | some u =>
      rw [hv] at z
      obtain ⟨as, r1⟩ := Dp.reads I (toD d) p.2 q2 (Is.dp no h2) ry
      obtain ⟨bs, r2⟩ := Dp.reads I (toD d) v u (Is.dp no h3) z
      have eq : SeqAt.EqAt A s q2 u (PyData.eqv (toD d) (toD d)) := SeqAt.eqAt_reads _ _ A s q2 u as bs r1 r2 h2.lay h2.lay (by have := toD_depth d; rw [Nat.min_self]; omega)
      rw [eqv_self] at eq
      exact .hit (e := true) hv eq k
def rNeDict : R2 := fun x y H Q => (x = .non ∧ y = .non ∧ Q (.bl false) H) ∨ ∃ a b ks ls, x = .ref a ∧ y = .ref b ∧ H a = some (.dK ks) ∧ H b = some (.dK ls) ∧ ks.length = ls.length ∧ (∀ p ∈ ks, ∃ v t, valV ls p.1 = some v ∧ Is H p.2 t ∧ Is H v t ∧ NoO t ∧ dep t ≤ 190) ∧ Q (.bl false) H
theorem neDict {X : Cx} (hu : X.A.units + 200 < cLine) : OpR X (compareOp .NotEq) rNeDict := by
  intro pins s σ H x y v u Q I rx ry hyp
  rcases hyp with ⟨rfl, rfl, q⟩ | ⟨a, b, ks, ls, rfl, rfl, ea, eb, hlen, hp, fin⟩
  · exact op_ne pins s σ H .non .non v u Q I rx ry ⟨rfl, q⟩
  cases (show v = Value.ref a from rx)
  cases (show u = Value.ref b from ry)
  obtain ⟨_, y1, va, ra, da⟩ := (show ObjOk X.prog X.w H s.heap a (.dK ks) from I.hok a _ ea)
  obtain ⟨_, y2, vb, rb, db⟩ := (show ObjOk X.prog X.w H s.heap b (.dK ls) from I.hok b _ eb)
  have few : va.length = vb.length := by rw [← ra.length, ← rb.length]; exact hlen
  exact PySem.W.keq_ne (knd := mixKind X.prog X.w) (r := true) y1 y2 da db (by omega) (fun _ => hits_data I (by show X.A.units + 1 + 195 < cLine; omega) rb ra hp) (fin_blD I fin (by simp [few]))
/-- two dicts that tell the same -/
theorem ne_alike {H : Hp} {a b : Addr} {f g : AL} {Q : VK} (ha : AsD H a f) (hb : AsD H b g) (n1 : (f.map (·.1)).Nodup) (n2 : (g.map (·.1)).Nodup) (gr : GrA f) (eq : ∀ z, get f z = get g z) (q : Q (.bl false) H) : rNeDict (.ref a) (.ref b) H Q := by
  obtain ⟨ks, ea, pa⟩ := ha
  obtain ⟨ls, eb, pb⟩ := hb
  have l1 := pair_len pa
  have l2 := pair_len pb
  have l3 := len_get n1 n2 eq
  refine .inr ⟨a, b, ks, ls, rfl, rfl, ea, eb, by omega, fun p hp => ?_, q⟩
  obtain ⟨i, hi, ei⟩ := List.getElem_of_mem hp
  obtain ⟨zt, ez, h1, h2⟩ := Paired.get pa (show ks[i]? = some p by rw [List.getElem?_eq_getElem hi, ei])
  have hz := List.mem_of_getElem? ez
  have g1 : get f zt.1 = some zt.2 := (get_mem n1).mp hz
  obtain ⟨gr1, gr2⟩ := gr zt hz
  rw [eq] at g1
  rcases pair_val zt.1 pb with ⟨_, e⟩ | ⟨v, t, e1, e2, iv⟩
  · rw [g1] at e; cases e
  · rw [g1] at e2
    cases e2
    exact ⟨v, zt.2, by rw [h1]; exact e1, h2, iv, tm_no (gr_tm gr1), by omega⟩
end Kx
namespace Kx
open PySem PySem.Spec PyProof.Rows L2
section
variable {P : Program} {w : World} {K : PySem.W.Frag} {mg : Str → Option Value} {base : Heap}
def spLaw {K : PySem.W.Frag} (TT : List (Addr × Str)) : Sp := fun vs H Q _ => ∃ (a : Addr) (ns : List Int), vs = [.ref a] ∧ SqL K H a (ns.map V.int) ∧ ns.length ≤ 63 ∧ LamX.Tabs TT H ∧ ∀ H', Q (.bl true) H'
/-- a list whose items are among those of another -/
theorem cutV_mem {xs : List V} {lo hi : Option Int} {x : V} (h : x ∈ cutV xs lo hi) : x ∈ xs := by
  unfold cutV at h
  exact List.mem_of_mem_drop (List.mem_of_mem_take h)
theorem tab_at {H : Hp} {a : Addr} {mk : List PV} {F : List Str} {cs : List Con} (h : Is H (.ref a) (tabPV mk F cs)) : ∃ v0 v1 fa ca fvs cvs, H a = some (.tup [v0, v1, .ref fa, .ref ca]) ∧ H fa = some (.tup fvs) ∧ IsL H fvs (F.map PV.str) ∧ H ca = some (.tup cvs) ∧ IsL H cvs (cs.map conPV) := by
  obtain ⟨a', v0, v1, fa, ca, fvs, cvs, e, r⟩ := tab_inv h
  cases e
  exact ⟨v0, v1, fa, ca, fvs, cvs, r⟩
theorem con_mem {H : Hp} {cvs : List V} {cs : List Con} (h : IsL H cvs (cs.map conPV)) {x : V} (hx : x ∈ cvs) : ∃ c ∈ cs, Is H x (conPV c) := by
  obtain ⟨i, hi, ei⟩ := List.getElem_of_mem hx
  obtain ⟨t, et, it⟩ := h.get (show cvs[i]? = some x by rw [List.getElem?_eq_getElem hi, ei])
  rw [List.getElem?_map] at et
  obtain ⟨c, hc, rfl⟩ := Option.map_eq_some_iff.mp et
  exact ⟨c, List.mem_of_getElem? hc, it⟩
theorem isL_mem {H : Hp} {vs : List V} {ts : List PV} (h : IsL H vs ts) {x : V} (hx : x ∈ vs) : ∃ t ∈ ts, Is H x t := by
  obtain ⟨i, hi, ei⟩ := List.getElem_of_mem hx
  obtain ⟨t, et, it⟩ := h.get (show vs[i]? = some x by rw [List.getElem?_eq_getElem hi, ei])
  exact ⟨t, List.mem_of_getElem? et, it⟩
theorem Dr.off {H : Hp} {d c a : Addr} {vs : List V} (D : Dr H d c) (e : H a = some (.tup vs)) : a ≠ d ∧ a ≠ c := by
  obtain ⟨⟨ys, e1⟩, ⟨zs, e2⟩⟩ := D.lst
  exact ⟨ne_of e e1 (fun z => nomatch z), ne_of e e2 (fun z => nomatch z)⟩
/-- what is asked: a value or something else, and whether it is one -/
def Ask (cs : List Con) (H : Hp) (v : V) : Prop := ∃ q x t b, v = .ref q ∧ H q = some (.tup [x, .bl b]) ∧ Is H x t ∧ dep t ≤ 40 ∧ form (cnts cs) false t = b
theorem Ask.same {cs : List Con} {H H' : Hp} {v : V} (s : Same H H') (h : Ask cs H v) : Ask cs H' v := by
  obtain ⟨q, x, t, b, e, eq, i, r⟩ := h
  exact ⟨q, x, t, b, e, s _ _ eq, i.same s, r⟩
theorem Ask.ex {cs : List Con} {d c : Addr} {H H' : Hp} {v : V} (x : Ex d c H H') (D : Dr H d c) (h : Ask cs H v) : Ask cs H' v := by
  obtain ⟨q, x2, t, b, e, eq, i, r⟩ := h
  exact ⟨q, x2, t, b, e, x.keep D eq fun _ z => (by cases z), i.ex x D, r⟩
theorem hd_inv {H : Hp} {v : V} {h : Hd} (i : Is H v (hdPV h)) : ∃ a pa iv ov pvs, v = .ref a ∧ H a = some (.tup [.str h.w, .ref pa, .str h.fam, iv, ov]) ∧ H pa = some (.tup pvs) ∧ IsL H pvs (h.ps.map prPV) := by
  obtain ⟨a, vs, rfl, ea, hL⟩ := i.tup_inv
  cases hL with
  | @cons v0 _ _ _ i0 hL =>
  cases hL with
  | @cons v1 _ _ _ i1 hL =>
  cases hL with
  | @cons v2 _ _ _ i2 hL =>
  cases hL with
  | @cons v3 _ _ _ i3 hL =>
  cases hL with
  | @cons v4 _ _ _ i4 hL =>
  cases hL
  obtain ⟨pa, pvs, rfl, ep, pL⟩ := i1.tup_inv
  cases i0.str_inv
  cases i2.str_inv
  exact ⟨a, pa, v3, v4, pvs, rfl, ea, ep, pL⟩
theorem AsD.sx {TT : List (Addr × Str)} {H H' : Hp} {p : Addr} {al : AL} (s : Sx TT H H') (h : AsD H p al) : AsD H' p al := by
  obtain ⟨kvs, e, b⟩ := h
  exact ⟨kvs, s.x _ _ e fun _ z => (by cases z), Paired.imp b fun _ _ ⟨q, i⟩ => ⟨q, i.sx s⟩⟩
/-- what the law says is due -/
def Due (ps : List (Str × PV)) (ks : List (Option (Str × PV))) (H : Hp) (v : V) : Prop := (treesFor ps ks = none ∧ v = .non) ∨ ∃ al al' f, treesFor ps ks = some al ∧ v = .ref f ∧ AsD H f al' ∧ (al'.map (·.1)).Nodup ∧ ∀ z, get al' z = get al z
def dtK : Option (Str × PV) → Option PV := fun k => k.map fun z => .tup [.str z.1, z.2]
theorem dt_kind {H : Hp} {v : V} {k : Option (Str × PV)} (h : KindIs H v k) (n : ∀ z, k = some z → NoO z.2 ∧ dep z.2 ≤ 140) : DtIs H v (dtK k) := by
  cases k with
  | none => exact h
  | some z =>
    obtain ⟨a, b⟩ := n z rfl
    exact ⟨h, ⟨trivial, a, trivial⟩, by simp only [dep, depL]; omega⟩
theorem ok_law {TT : List (Addr × Str)} (T : Txt K mg) (G_law_state : FnOk P w K mg base CX0 1 T.a_law_state T.d_law_state ["script"] (spState K)) (G_law_table : FnOk P w K mg base CX0 3 T.a_law_table T.d_law_table ["state"] spTable) (G_law_draw : FnOk P w K mg base CX0 1 T.a_law_draw T.d_law_draw ["state", "many"] spDraw) (G_law_values : FnOk P w K mg base CX0 26 T.a_law_values T.d_law_values ["table", "rounds", "most"] spValues) (G_law_pick : FnOk P w K mg base CX0 2 T.a_law_pick T.d_law_pick ["state", "row"] (spPick K)) (G_index_of : FnOk P w K mg base CX0 53 T.a_index_of T.d_index_of ["table", "value"] (spIndex TT 20)) (G_law_index : FnOk P w K mg base CX0 24 T.a_law_index T.d_law_index ["table", "value"] (spLIdx 20)) (G_size : FnOk P w K mg base CX0 45 T.a_size T.d_size ["value"] (spSize TT 20)) (G_law_size : FnOk P w K mg base CX0 21 T.a_law_size T.d_law_size ["value"] (spLSize 20)) (G_law_broken : FnOk P w K mg base CX0 22 T.a_law_broken T.d_law_broken ["state", "value"] (spBroken 20)) (G_is_raw : FnOk P w K mg base CX0 44 T.a_is_raw T.d_is_raw ["table", "value"] (spRaw 40)) (G_law_heads : FnOk P w K mg base CX0 3 T.a_law_heads T.d_law_heads ["state", "table"] spHeads) (G_law_fit : FnOk P w K mg base CX0 1 T.a_law_fit T.d_law_fit ["patterns", "trees"] (spLFit 60)) (G_demanded : FnOk P w K mg base CX0 54 T.a_demanded T.d_demanded ["table", "function", "values"] (spDem (K := K) TT 20)) : FnOk P w K mg base CX0 60 T.a_law T.d_law ["script"] (spLaw (K := K) TT) := by
  refine T.F_law.ok sc_law (fun vs H Q E h => ?_) (fun cdv A outer s H vs Q E hr h => ?_)
  · obtain ⟨a, ns, rfl, _⟩ := h; rfl
  · obtain ⟨a, ns, rfl, hS, h63, hT, q⟩ := h
    have hr_law_state : Room 1 _ := hr.mono (by decide)
    have hr_law_table : Room 3 _ := hr.mono (by decide)
    have hr_law_draw : Room 1 _ := hr.mono (by decide)
    have hr_law_values : Room 26 _ := hr.mono (by decide)
    have hr_law_pick : Room 2 _ := hr.mono (by decide)
    have hr_index_of : Room 53 _ := hr.mono (by decide)
    have hr_law_index : Room 24 _ := hr.mono (by decide)
    have hr_size : Room 45 _ := hr.mono (by decide)
    have hr_law_size : Room 21 _ := hr.mono (by decide)
    have hr_law_broken : Room 22 _ := hr.mono (by decide)
    have hr_is_raw : Room 44 _ := hr.mono (by decide)
    have hr_law_heads : Room 3 _ := hr.mono (by decide)
    have hr_law_fit : Room 1 _ := hr.mono (by decide)
    have hr_demanded : Room 54 _ := hr.mono (by decide)
    have hu := hu_of hr
    refine ⟨_, (pss_cons (ps_set (i := 1) sc_law.nd rfl (Or.inr rfl) (pe_call G_law_state hr_law_state rfl T.m_law_state T.F_law_state.kp T.b_law_state .nil pass0 (pa_cons (pv 0) pa_nil)))
    (pss_cons (ps_set (i := 2) sc_law.nd rfl (Or.inr rfl) (pe_call G_law_table hr_law_table rfl T.m_law_table T.F_law_table.kp T.b_law_table .nil pass0 (pa_cons (pv 1) pa_nil)))
    (Evl.pss_cut (ps_set (i := 3) sc_law.nd rfl (Or.inr rfl) (pe_slice sl_list (pe_lc (own := [("one", 14)]) (g := (gName 14)) (tt := tYes) rfl sc_law.nd (pi_list (pe_call G_law_values hr_law_values rfl T.m_law_values T.F_law_values.kp T.b_law_values .nil pass0 (pa_cons (pv 2) (pa_cons (pe_op op_add pe_int (pe_call G_law_draw hr_law_draw rfl T.m_law_draw T.F_law_draw.kp T.b_law_draw .nil pass0 (pa_cons (pv 1) (pa_cons pe_int pa_nil)))) (pa_cons pe_int pa_nil))))) (blkOk_by (own := [("one", 14)]) (N := ["script", "state", "table", "known", "turn", "row", "value", "asked", "other", "due", "flag", "head", "values", "found", "one", "part", "param", "pair"]) (sc := defScope s_law) (by decide +kernel)) (fun _ _ _ _ _ => (pg_name (i := 14) sc_law.nd rfl (Or.inl rfl))) (fun _ _ _ _ _ => pts_nil) (fun _ _ _ _ _ => (pe_ix (ixTK (K := K)) (pv 14) pe_int (fun _ _ => rfl)))) po_none (po_some pe_int)))
    (Evl.pss_cut (ps_for PassesOwn.never rfl (pi_range1 (by rfl) T.z_range (pa_cons pe_int pa_nil)) (pg_name (i := 4) sc_law.nd rfl (Or.inl rfl))
    (pss_cons (ps_set (i := 5) sc_law.nd rfl (Or.inl rfl) (pe_call G_law_pick hr_law_pick rfl T.m_law_pick T.F_law_pick.kp T.b_law_pick .nil pass0 (pa_cons (pv 1) (pa_cons (pe_ix ix_tup (pv 2) pe_int (fun _ _ => rfl)) pa_nil))))
    (pss_one (ps_if (pt_cut (PW.pt (pw_or (pt_cmpR op_gt (pe_callB call_len_seq (by rfl) T.z_len (by decide +kernel) (pa_cons (pv 3) pa_nil)) pe_int (nomark _)) (pw_or1 (pt_cmpR op_eq (pe_callB call_len_seq (by rfl) T.z_len (by decide +kernel) (pa_cons (pe_ix ix_tup (pv 5) pe_int (fun _ _ => rfl)) pa_nil)) pe_int (nomark _)))))) (pss_one (ps_expr (pe_bm PySem.F.plainAttrs_list PySem.F.slot_list_append PySem.F.type_list_append mt_append (pv 3) (pa_cons (pe_op op_catT (pe_tup (pa_cons (pe_ix ix_tup (pv 5) pe_int (fun _ _ => rfl)) pa_nil)) (pe_callTy call_tuple_of (by rfl) T.z_tuple (by decide +kernel) (pa_cons (pe_lc (own := [("part", 15)]) (g := (gName 15)) (tt := tYes) rfl sc_law.nd (pi_tup (pe_ix ix_tup (pv 5) pe_int (fun _ _ => rfl))) (blkOk_by (own := [("part", 15)]) (N := ["script", "state", "table", "known", "turn", "row", "value", "asked", "other", "due", "flag", "head", "values", "found", "one", "part", "param", "pair"]) (sc := defScope s_law) (by decide +kernel)) (fun _ _ _ _ _ => (pg_name (i := 15) sc_law.nd rfl (Or.inl rfl))) (fun _ _ _ _ _ => pts_nil) (fun _ _ _ _ _ => (pe_call G_law_pick hr_law_pick rfl T.m_law_pick T.F_law_pick.kp T.b_law_pick .nil pass0 (pa_cons (pv 1) (pa_cons (pv 3) pa_nil))))) pa_nil))) pa_nil)))) pss_nil))))
    (Evl.pss_cut (ps_for PassesOwn.never rfl (pi_list (pv 3)) (pg_name (i := 6) sc_law.nd rfl (Or.inl rfl))
    (pss_cons (ps_if (PW.pt (pw_or (pt_cmpR (neP (u200 hr)) (pe_call G_index_of hr_index_of rfl T.m_index_of T.F_index_of.kp T.b_index_of .nil pass0 (pa_cons (pv 2) (pa_cons (pv 6) pa_nil))) (pe_call G_law_index hr_law_index rfl T.m_law_index T.F_law_index.kp T.b_law_index .nil pass0 (pa_cons (pv 2) (pa_cons (pv 6) pa_nil))) (nomark _)) (pw_or1 (pt_cmpR op_ne (pe_call G_size hr_size rfl T.m_size T.F_size.kp T.b_size .nil pass0 (pa_cons (pv 6) pa_nil)) (pe_call G_law_size hr_law_size rfl T.m_law_size T.F_law_size.kp T.b_law_size .nil pass0 (pa_cons (pv 6) pa_nil)) (nomark _))))) (pss_one (ps_ret pe_bl)) pss_nil)
    (Evl.pss_cut (ps_set (i := 7) sc_law.nd rfl (Or.inl rfl) (pe_lst (pa_cons (pe_tup (pa_cons (pv 6) (pa_cons pe_bl pa_nil))) (pa_cons (pe_tup (pa_cons (pe_call G_law_broken hr_law_broken rfl T.m_law_broken T.F_law_broken.kp T.b_law_broken .nil pass0 (pa_cons (pv 1) (pa_cons (pv 6) pa_nil))) (pa_cons pe_bl pa_nil))) (pa_cons (pe_tup (pa_cons (pv 6) (pa_cons pe_bl pa_nil))) pa_nil)))))
    (pss_one (ps_for PassesOwn.never rfl (pi_list (pe_op op_cat (pe_slice sl_list (pv 7) (po_some (pe_call G_law_draw hr_law_draw rfl T.m_law_draw T.F_law_draw.kp T.b_law_draw .nil pass0 (pa_cons (pv 1) (pa_cons pe_int pa_nil)))) po_none) (pe_slice sl_list (pv 7) po_none (po_some (pe_call G_law_draw hr_law_draw rfl T.m_law_draw T.F_law_draw.kp T.b_law_draw .nil pass0 (pa_cons (pv 1) (pa_cons pe_int pa_nil))))))) (pg_tup rfl (pgs_cons (pg_name (i := 8) sc_law.nd rfl (Or.inl rfl)) (pgs_cons (pg_name (i := 9) sc_law.nd rfl (Or.inl rfl)) pgs_nil)))
    (pss_cons (ps_set (i := 10) sc_law.nd rfl (Or.inl rfl) (pe_call G_is_raw hr_is_raw rfl T.m_is_raw T.F_is_raw.kp T.b_is_raw .nil pass0 (pa_cons (pv 2) (pa_cons (pv 8) pa_nil))))
    (pss_one (ps_if (PW.pt (pw_or (pt_not (pt_val (pe_callB call_isi (by rfl) T.z_isinstance (by decide +kernel) (pa_cons (pv 10) (pa_cons (pe_bltn rfl T.z_bool (by decide +kernel) (show RelV (V.ty "bool") (Value.type "bool") from rfl)) pa_nil))))) (pw_or1 (pt_cmpR op_ne (pv 10) (pv 9) (nomark _))))) (pss_one (ps_ret pe_bl)) pss_nil))))))))
    (Evl.pss_cut (ps_for PassesOwn.never rfl (pi_list (pe_call G_law_heads hr_law_heads rfl T.m_law_heads T.F_law_heads.kp T.b_law_heads .nil pass0 (pa_cons (pv 1) (pa_cons (pv 2) pa_nil)))) (pg_name (i := 11) sc_law.nd rfl (Or.inl rfl))
    (Evl.pss_cut (ps_set (i := 12) sc_law.nd rfl (Or.inl rfl) (pe_callTy call_tuple_of (by rfl) T.z_tuple (by decide +kernel) (pa_cons (pe_lc (own := [("param", 16)]) (g := (gName 16)) rfl sc_law.nd (pi_tup (pe_ix ix_tup (pv 11) pe_int (fun _ _ => rfl))) (blkOk_by (own := [("param", 16)]) (N := ["script", "state", "table", "known", "turn", "row", "value", "asked", "other", "due", "flag", "head", "values", "found", "one", "part", "param", "pair"]) (sc := defScope s_law) (by decide +kernel)) (fun _ _ _ _ _ => (pg_name (i := 16) sc_law.nd rfl (Or.inl rfl))) (fun _ _ _ _ _ => pts_one (pt_cmpR op_gt (pe_callB (lenSeqK (K := K)) (by rfl) T.z_len (by decide +kernel) (pa_cons (pv 3) pa_nil)) pe_int (nomark _))) (fun _ _ _ _ _ => (pe_call G_law_pick hr_law_pick rfl T.m_law_pick T.F_law_pick.kp T.b_law_pick .nil pass0 (pa_cons (pv 1) (pa_cons (pv 3) pa_nil))))) pa_nil)))
    (pss_one (ps_if (pt_cmpR op_eq (pe_callB call_len_seq (by rfl) T.z_len (by decide +kernel) (pa_cons (pv 12) pa_nil)) (pe_callB call_len_seq (by rfl) T.z_len (by decide +kernel) (pa_cons (pe_ix ix_tup (pv 11) pe_int (fun _ _ => rfl)) pa_nil)) (nomark _)) (Evl.pss_cut (ps_setLc (i := 13) (own := [("value", 6)]) (g := (gName 6)) (tt := tYes) rfl sc_law.nd rfl rfl (sw_true rfl rfl rfl (by decide +kernel)) (pi_tup (pv 12)) (blkOk_by (own := [("value", 6)]) (N := ["script", "state", "table", "known", "turn", "row", "value", "asked", "other", "due", "flag", "head", "values", "found", "one", "part", "param", "pair"]) (sc := defScope s_law) (by decide +kernel)) (fun _ _ _ _ _ => (pg_name (i := 6) sc_law.nd rfl (Or.inl rfl))) (fun _ _ _ _ _ => pts_nil) (fun _ _ _ _ _ => (pe_call G_law_index hr_law_index rfl T.m_law_index T.F_law_index.kp T.b_law_index .nil pass0 (pa_cons (pv 2) (pa_cons (pv 6) pa_nil)))))
    (pss_cons (ps_set (i := 9) sc_law.nd rfl (Or.inl rfl) pe_non)
    (Evl.pss_cut (ps_if (PW.pt (pw_and (pt_cmpR (noneNotIn (u200 hr)) pe_non (pv 13) (by rfl)) (pw_and1 (pt_cmpR (eqP (u200 hr)) (pe_lc (own := [("pair", 17)]) (g := (gName 17)) (tt := tYes) rfl sc_law.nd (pi_list (pv 13)) (blkOk_by (own := [("pair", 17)]) (N := ["script", "state", "table", "known", "turn", "row", "value", "asked", "other", "due", "flag", "head", "values", "found", "one", "part", "param", "pair"]) (sc := defScope s_law) (by decide +kernel)) (fun _ _ _ _ _ => (pg_name (i := 17) sc_law.nd rfl (Or.inl rfl))) (fun _ _ _ _ _ => pts_nil) (fun _ _ _ _ _ => (pe_ix (ixTK (K := K)) (pv 17) pe_int (fun _ _ => rfl)))) (pe_lc (own := [("param", 16)]) (g := (gName 16)) (tt := tYes) rfl sc_law.nd (pi_tup (pe_ix ix_tup (pv 11) pe_int (fun _ _ => rfl))) (blkOk_by (own := [("param", 16)]) (N := ["script", "state", "table", "known", "turn", "row", "value", "asked", "other", "due", "flag", "head", "values", "found", "one", "part", "param", "pair"]) (sc := defScope s_law) (by decide +kernel)) (fun _ _ _ _ _ => (pg_name (i := 16) sc_law.nd rfl (Or.inl rfl))) (fun _ _ _ _ _ => pts_nil) (fun _ _ _ _ _ => (pe_ix (ixTK (K := K)) (pv 16) pe_int (fun _ _ => rfl)))) (nomark _))))) (pss_one (ps_set (i := 9) sc_law.nd rfl (Or.inl rfl) (pe_call G_law_fit hr_law_fit rfl T.m_law_fit T.F_law_fit.kp T.b_law_fit .nil pass0 (pa_cons (pe_lc (own := [("param", 16)]) (g := (gName 16)) (tt := tYes) rfl sc_law.nd (pi_tup (pe_ix ix_tup (pv 11) pe_int (fun _ _ => rfl))) (blkOk_by (own := [("param", 16)]) (N := ["script", "state", "table", "known", "turn", "row", "value", "asked", "other", "due", "flag", "head", "values", "found", "one", "part", "param", "pair"]) (sc := defScope s_law) (by decide +kernel)) (fun _ _ _ _ _ => (pg_name (i := 16) sc_law.nd rfl (Or.inl rfl))) (fun _ _ _ _ _ => pts_nil) (fun _ _ _ _ _ => (pe_ix (ixTK (K := K)) (pv 16) pe_int (fun _ _ => rfl)))) (pa_cons (pe_lc (own := [("pair", 17)]) (g := (gName 17)) (tt := tYes) rfl sc_law.nd (pi_list (pv 13)) (blkOk_by (own := [("pair", 17)]) (N := ["script", "state", "table", "known", "turn", "row", "value", "asked", "other", "due", "flag", "head", "values", "found", "one", "part", "param", "pair"]) (sc := defScope s_law) (by decide +kernel)) (fun _ _ _ _ _ => (pg_name (i := 17) sc_law.nd rfl (Or.inl rfl))) (fun _ _ _ _ _ => pts_nil) (fun _ _ _ _ _ => (pe_ix (ixTK (K := K)) (pv 17) pe_int (fun _ _ => rfl)))) pa_nil))))) pss_nil)
    (pss_one (ps_if (pt_cmpR (neDict (u200 hr)) (pe_call G_demanded hr_demanded rfl T.m_demanded T.F_demanded.kp T.b_demanded .nil pass0 (pa_cons (pv 2) (pa_cons (pe_op op_catT (pv 11) (pe_tup (pa_cons (pe_tup pa_nil) pa_nil))) (pa_cons (pv 12) pa_nil)))) (pv 9) (nomark _)) (pss_one (ps_ret pe_bl)) pss_nil))))) pss_nil))))
    (pss_one (ps_ret pe_bl)))))))), ?_⟩
    refine ⟨_, rfl, a, ns, rfl, hS, h63, fun d c H1 s1 D1 => ?_⟩
    refine ⟨_, rfl, d, c, rfl, D1, fun tv H2 mk F cs iT G x2 D2 => ?_⟩
    have T2 := tabs_ex x2 D1 (hT.ext s1)
    obtain ⟨ta, _, _, _, _, _, _, etv, _⟩ := tab_inv iT
    subst etv
    have CG := con_of G
    have len12 := G.len.2
    refine ⟨fun σ H3 => ∃ kl ts, σ = [some (.ref a), some (.ref d), some (.ref ta), some (.ref kl), none, none, none, none, none, none, none, none, none, none, none, none, none, none] ∧ Wd TT d c (.ref ta) kl mk F cs ts H3 ∧ (∀ t ∈ ts, RVn cs 6 t) ∧ ts.length ≤ 12, ?_, ?_⟩
    · refine ⟨_, rfl, _, rfl, d, c, 3, rfl, D2, by decide, by decide, fun r H3 r0 r1 x3 D3 => ⟨_, _, rfl, rfl, ?_⟩⟩
      have i3 := iT.ex x3 D2
      obtain ⟨k, rfl⟩ : ∃ k : Nat, r = (k : Int) := ⟨r.toNat, by omega⟩
      refine ⟨.ref ta, k + 1, mk, F, cs, by simp [Int.add_comm], by omega, i3, G, fun l H4 ys ks s4 el iY kg kl => ?_⟩
      have ysl := iY.len
      rw [List.length_map] at ysl
      refine ⟨l, rfl, ⟨ys, SqL.of el⟩, fun D hD => ?_⟩
      refine lc_pickL (K := K) (a := l) (xs := ys) ordS (fun _ => true) (fun H v (k : KI) => Is H v (kiPV k)) (fun H v (k : KI) => Is H v k.1) (fun H' s => SqL.of (s _ _ el)) (isL_pair iY) (fun s h => h.same s) (fun s h => h.same s) (fun e h => h.wr e) hD (by omega) (fun x y H9 Q' Z hx hy s9 y1 y0 => ?_) (fun H5 ws s5 eD p5 => ?_)
      · obtain ⟨xa, tv2, xv2, rfl, ex, itv, ixv2, kz2⟩ := ki_inv hx
        exact ⟨rfl, yes_if ⟨_, rfl, xa, _, _, _, rfl, rfl, .inl (.inl ex), atI_nat (j := 0) rfl, y1 rfl _ _ (.refl _) itv⟩⟩
      rw [filt_all] at p5
      have i5 : IsL H5 ws (ks.map (·.1)) := pair_isL p5
      refine ⟨12, rfl, D, ws, rfl, SqL.of eD, fun kl hkl => ?_⟩
      have s6 := same_upd hkl (.lst (cutV ws none (some 12)))
      have D6 : Dr (upd H5 kl (.lst (cutV ws none (some 12)))) d c := ((D3.same s4).same s5).same s6
      obtain ⟨n1, n2⟩ := ((D3.same s4).same s5).free hkl
      have cut12 : cutV ws none (some 12) = ws.take 12 := by
        unfold cutV
        rw [show (12 : Int) = ((12 : Nat) : Int) from rfl, HT.sIx_nat, HT.sIx_none]
        simp [List.take_take, Nat.min_comm]
      refine ⟨kl, (ks.map (·.1)).take 12, rfl, ⟨((tabs_ex x3 D2 T2).ext ((s4.trans s5).trans s6)), D6, ((i3.same s4).same s5).same s6, ⟨_, upd_same, by have := (i5.take 12).same s6; rwa [← cut12] at this⟩, n1, n2⟩, fun t ht => ?_, by rw [List.length_take]; omega⟩
      obtain ⟨k, hk, rfl⟩ := List.mem_map.mp (List.mem_of_mem_take ht)
      exact kg k hk
    rintro σ H3 ⟨kl, ts, rfl, W3, kg, l12⟩
    refine ⟨fun σ H4 => ∃ y4 y5 ts, σ = [some (.ref a), some (.ref d), some (.ref ta), some (.ref kl), y4, y5, none, none, none, none, none, none, none, none, none, none, none, none] ∧ Wd TT d c (.ref ta) kl mk F cs ts H4 ∧ (∀ t ∈ ts, RVn cs 18 t) ∧ ts.length ≤ 18, ?_, ?_⟩
    · refine ⟨6, rfl, by decide, by decide, ?_⟩
      refine for_range (n := 6) (fun i σ H4 => ∃ (y4 y5 : Option V) (ts : List PV), σ = [some (.ref a), some (.ref d), some (.ref ta), some (.ref kl), y4, y5, none, none, none, none, none, none, none, none, none, none, none, none] ∧ Wd TT d c (.ref ta) kl mk F cs ts H4 ∧ (∀ t ∈ ts, RVn cs (6 + 2 * i) t) ∧ ts.length ≤ 12 + i) ?_ ?_ ?_
      · exact ⟨none, none, ts, rfl, W3, kg, l12⟩
      · rintro i σ H4 hi ⟨y4, y5, ts, rfl, W4, kg, ll⟩
        obtain ⟨v0, v1, fa, ca, fvs, cvs, ea, ef, fL, ec, cL⟩ := tab_at W4.it
        have cl := cL.len
        rw [List.length_map] at cl
        obtain ⟨nca, ncb⟩ := W4.dr.off ec
        have cs1 := G.len.1
        refine ⟨_, rfl, _, rfl, ta, _, _, _, rfl, rfl, .inl (.inl ea), atI_nat (j := 3) rfl, d, c, ca, cvs, rfl, W4.dr, .inr (.inl (.inl ec)), nca, ncb, by omega, by omega, fun x H5 hx x5 D5 => ?_⟩
        have W5 := W4.ex x5 D5
        obtain ⟨cc, hcc, ic4⟩ := con_mem cL hx
        have ic := ic4.ex x5 W4.dr
        obtain ⟨ra, pa, iv, pvs, rfl, er, ep, pL, iiv, k0, k1⟩ := con_inv ic
        have pl := pL.len
        rw [List.length_map] at pl
        obtain ⟨vs, ekl, iV⟩ := W5.kn
        have vl := iV.len
        refine ⟨fun b H6 => H6 = H5 ∧ (b = true → vs ≠ [] ∨ pvs = []), ?_, ?_⟩
        · refine ⟨_, rfl, kl, vs, rfl, .inl (SqL.of ekl), _, _, rfl, rfl, _, rfl, ite2 (fun c1 => ⟨rfl, fun _ => .inl ?_⟩) (fun c1 => ⟨_, rfl, ra, _, _, _, rfl, rfl, .inl (.inl er), atI_nat (j := 1) rfl, pa, _, rfl, .inr (.inl (.inl ep)), rfl, _, rfl, rfl, fun hb => .inr ?_⟩)⟩
          · intro e
            rw [e] at c1
            simp at c1
          · have e0 : (pvs.length : Int) = 0 := by
              have := of_decide_eq_true hb
              exact V.int.inj this
            exact List.eq_nil_of_length_eq_zero (by omega)
        · rintro b H6 ⟨rfl, hb⟩
          refine ite2 (fun c1 => ?_) (fun _ => ?_)
          · have hv := hb c1
            have kd := W5.nd
            have kc := W5.nc
            refine ⟨_, rfl, .inl ⟨rfl, _, SqL.of ekl⟩, _, rfl, ra, _, _, _, rfl, rfl, .inl (.inl er), atI_nat (j := 0) rfl, (by show 1 ≤ sizeLine; decide), fun q1 hq1 => ?_⟩
            have u1 := same_upd hq1 (.tup [.str cc.w])
            refine ⟨_, rfl, ra, _, _, _, rfl, rfl, .inl (.inl (u1 _ _ er)), atI_nat (j := 1) rfl, pa, rfl, ⟨_, .inl (.inl (u1 _ _ ep))⟩, fun D hD => ?_⟩
            have Wu := W5.same u1
            obtain ⟨nDd, nDc⟩ := Wu.dr.free hD
            have eq1 : (upd H6 q1 (.tup [.str cc.w])) q1 = some (.tup [.str cc.w]) := upd_same
            generalize hHu : upd H6 q1 (.tup [.str cc.w]) = Hu at *
            have nDk : kl ≠ D := ne_of_none (u1 _ _ ekl) hD
            have epu := u1 _ _ ep
            have eklu := u1 _ _ ekl
            have iVu := iV.same u1
            refine lc_tup (K := K) (a := pa) (xs := pvs) (fun j H9 => Ex d c Hu H9 ∧ Dr H9 d c ∧ ∃ ws us, H9 D = some (.lst ws) ∧ IsL H9 ws us ∧ (∀ u ∈ us, RVn cs (6 + 2 * i) u) ∧ us.length = j) ?_ ?_ ?_ ?_
            · exact ⟨.of (same_upd hD _), Wu.dr.same (same_upd hD _), [], [], upd_same, .nil, (fun u h => by cases h), rfl⟩
            · exact fun j H9 _ ⟨x9, _⟩ => .inl (.inl (x9.keep Wu.dr epu fun _ z => by cases z))
            · rintro j x H9 hx ⟨x9, D9, ws, us, eD, hW, ug, ul⟩
              have hne : vs ≠ [] := hv.resolve_right fun e => by rw [e] at hx; simp at hx
              have v1 : 1 ≤ vs.length := by cases vs with | nil => exact absurd rfl hne | cons _ _ => simp
              have ekl9 := x9.but _ _ kd kc eklu
              refine ⟨rfl, yes_if ⟨_, rfl, _, rfl, d, c, kl, vs, rfl, D9, .inl ekl9, kd, kc, v1, by omega, fun y H10 hy x10 D10 => ?_⟩⟩
              obtain ⟨t, ht, it⟩ := isL_mem iVu hy
              have eD10 := x10.but _ _ nDd nDc eD
              have it10 := ((it.ex x9 Wu.dr).ex x10 D9)
              have j3 : j < pvs.length := (List.getElem?_eq_some_iff.mp hx).1
              have c3 := (CG cc hcc).len
              have wl := hW.len
              refine ⟨ws, eD10, small1000 (by omega), (x9.trans x10).own hD _, D10.own nDd nDc, ws ++ [y], us ++ [t], upd_same, IsL.wr eD10 ((IsL.ex x10 D9 hW).append (.cons it10 .nil)), ?_, by rw [List.length_append, ul]; rfl⟩
              intro u hu2
              rcases List.mem_append.mp hu2 with h | h
              · exact ug u h
              · rw [List.mem_singleton.mp h]; exact kg t ht
            · rintro H9 ⟨x9, D9, ws, us, eD, hW, ug, ul⟩
              refine ⟨D, ws, rfl, .inl ⟨SqL.of eD, fun l hl => ?_⟩⟩
              have u2 := same_upd hl (.tup ws)
              have eq9 := x9.keep Wu.dr eq1 fun _ z => by cases z
              have c3 := (CG cc hcc).len
              refine go_catT (u2 _ _ eq9) upd_same (.cons (.str _ k0) .nil) (hW.same u2) (by simp) (by simp only [List.length_cons, List.length_nil]; omega) fun v H10 s10 iv10 => ?_
              have W9 := Wu.ex x9 D9
              have W10 := W9.same (u2.trans s10)
              obtain ⟨vs', ekl', iV'⟩ := W10.kn
              have vl' := iV'.len
              refine ⟨kl, vs', v, rfl, rfl, ekl', small1000 (by omega), ?_⟩
              refine ⟨_, _, ts ++ [.tup (.str cc.w :: us)], rfl, ⟨tabs_wr W10.tab ekl', W10.dr.own kd kc, Is.wr ekl' W10.it, ⟨_, upd_same, IsL.wr ekl' (iV'.append (.cons iv10 .nil))⟩, kd, kc⟩, ?_, ?_⟩
              · intro t ht
                rcases List.mem_append.mp ht with h | h
                · exact (kg t h).mono (by omega)
                · rw [List.mem_singleton.mp h]
                  exact raw_make (words_nd G) hcc (by omega) ug
              · rw [List.length_append]; simp only [List.length_cons, List.length_nil]; omega
          · exact ⟨_, _, ts, rfl, W5, fun t ht => (kg t ht).mono (by omega), by omega⟩
      · rintro σ H4 ⟨y4, y5, ts, rfl, W4, kg, ll⟩
        exact ⟨y4, y5, ts, rfl, W4, kg, by omega⟩
    rintro σ H4 ⟨y4, y5, ts, rfl, W4, kg, l18⟩
    refine ⟨fun σ H5 => ∃ y6 y7 y8 y9 y10, σ = [some (.ref a), some (.ref d), some (.ref ta), some (.ref kl), y4, y5, y6, y7, y8, y9, y10, none, none, none, none, none, none, none] ∧ Wd TT d c (.ref ta) kl mk F cs ts H5, ?_, ?_⟩
    · obtain ⟨vs, ekl, iV⟩ := W4.kn
      have vl := iV.len
      have kd := W4.nd
      have kc := W4.nc
      refine ⟨_, rfl, kl, rfl, ⟨_, SqL.of ekl⟩, ?_⟩
      refine for_list (K := K) (a := kl) (xs := vs) (fun i σ H5 => ∃ y6 y7 y8 y9 y10, σ = [some (.ref a), some (.ref d), some (.ref ta), some (.ref kl), y4, y5, y6, y7, y8, y9, y10, none, none, none, none, none, none, none] ∧ Wd TT d c (.ref ta) kl mk F cs ts H5 ∧ H5 kl = some (.lst vs) ∧ IsL H5 vs ts) ?_ ?_ ?_ ?_
      · exact ⟨_, _, _, _, _, rfl, W4, ekl, iV⟩
      · exact fun i σ H5 _ ⟨_, _, _, _, _, _, _, e, _⟩ => SqL.of e
      · rintro i x σ H5 hx ⟨y6, y7, y8, y9, y10, rfl, W5, ekl5, iV5⟩
        obtain ⟨t, et, ix⟩ := iV5.get hx
        obtain ⟨l, rfl, raw, dl⟩ := kg t (List.mem_of_getElem? et)
        have le3 : ∀ c ∈ cs, c.ps.length ≤ 3 := fun c hc => (CG c hc).len
        have rv := raw_rv le3 _ raw
        have tree : ∀ z, idxOf cs (.tup l) = some z → NoO z.2 ∧ dep z.2 ≤ 140 := fun z hz => by
          obtain ⟨a1, a2, a3⟩ := idx_tree CG _ raw z hz
          exact ⟨tm_no (gr_tm a2), by omega⟩
        refine ⟨_, rfl, _, rfl, .ref ta, x, mk, F, cs, l, rfl, W5.tab, W5.it, G, ix, raw, by omega, by omega, fun r H6 x6 T6 hk => ?_⟩
        have z6 : Sx TT H5 H6 := ⟨x6, fun _ => T6⟩
        refine ⟨_, rfl, _, rfl, .ref ta, x, mk, F, cs, l, rfl, W5.it.sx z6, G, ix.sx z6, raw, by omega, by omega, fun r2 H7 s7 hk2 => ?_⟩
        refine rNe_dt (dt_kind (hk.same s7) tree) (dt_kind hk2 tree) ⟨_, rfl, ite2 (fun c => absurd c (by simp)) (fun _ => ?_)⟩
        have z7 : Sx TT H5 H7 := z6.trans (.of s7)
        have W7 := W5.sx z7
        have ix7 := ix.sx z7
        refine ⟨_, rfl, x, l, cs.map (·.w), rfl, by rw [List.length_map]; omega, W7.tab, ix7, rv, by omega, by omega, fun H8 x8 T8 => ?_⟩
        have z8 : Sx TT H7 H8 := ⟨x8, fun _ => T8⟩
        refine ⟨_, rfl, x, l, cs.map (·.w), rfl, ix7.sx z8, rv, by omega, fun H9 s9 => ?_⟩
        refine ⟨rfl, _, rfl, ite2 (fun c => absurd c (by simp)) (fun _ => ?_)⟩
        have z9 : Sx TT H5 H9 := (z7.trans z8).trans (.of s9)
        have W9 := W5.sx z9
        have ekl9 := z9.li ekl5
        have iV9 := IsL.sx z9 iV5
        have ix9 := ix.sx z9
        refine ⟨fun σ H' => ∃ al as, σ = [some (.ref a), some (.ref d), some (.ref ta), some (.ref kl), y4, y5, some x, some (.ref al), y8, y9, y10, none, none, none, none, none, none, none] ∧ Wd TT d c (.ref ta) kl mk F cs ts H' ∧ H' kl = some (.lst vs) ∧ IsL H' vs ts ∧ al ≠ d ∧ al ≠ c ∧ H' al = some (.lst as) ∧ as.length = 3 ∧ ∀ v ∈ as, Ask cs H' v, ?_, ?_⟩
        · refine ⟨_, rfl, (by show 2 ≤ sizeLine; decide), fun q1 hq1 => ?_⟩
          have s10 := same_upd hq1 (.tup [x, .bl true])
          have W10 := W9.same s10
          refine ⟨_, rfl, _, rfl, d, c, x, F, cs, l, rfl, W10.dr, G, ix9.same s10, raw, by omega, by omega, fun u t' H11 x11 D11 iu bad dd => ?_⟩
          refine ⟨(by show 2 ≤ sizeLine; decide), fun q2 hq2 => ⟨_, rfl, (by show 2 ≤ sizeLine; decide), fun q3 hq3 => ⟨(by show 3 ≤ sizeLine; decide), fun al hal => ?_⟩⟩⟩
          have W11 := W10.ex x11 D11
          have t2 := same_upd hq2 (.tup [u, .bl false])
          have t3 := same_upd hq3 (.tup [x, .bl true])
          have t4 := same_upd hal (.lst [.ref q1, .ref q2, .ref q3])
          have t234 := (t2.trans t3).trans t4
          obtain ⟨nd, nc⟩ := (W11.dr.same (t2.trans t3)).free hal
          have ix11 := (ix9.same s10).ex x11 W10.dr
          have e1 := t234 _ _ (x11.keep W10.dr (upd_same (H := H9) (a := q1) (o := .tup [x, .bl true])) fun _ z => by cases z)
          have e2 := (t3.trans t4) _ _ (upd_same (H := H11) (a := q2) (o := .tup [u, .bl false]))
          have e3 := t4 _ _ (upd_same (H := upd H11 q2 (.tup [u, .bl false])) (a := q3) (o := .tup [x, .bl true]))
          refine ⟨al, _, rfl, W11.same t234, t234 _ _ (x11.but _ _ kd kc (s10 _ _ ekl9)), (IsL.ex x11 W10.dr (iV9.same s10)).same t234, nd, nc, upd_same, rfl, fun v hv => ?_⟩
          simp only [List.mem_cons, List.not_mem_nil, or_false] at hv
          rcases hv with rfl | rfl | rfl
          · exact ⟨q1, x, _, true, rfl, e1, ix11.same t234, by omega, raw⟩
          · exact ⟨q2, u, t', false, rfl, e2, iu.same t234, by omega, bad⟩
          · exact ⟨q3, x, _, true, rfl, e3, ix11.same t234, by omega, raw⟩
        · rintro σ H10 ⟨al, as, rfl, W10, ekl10, iV10, nd, nc, eal, as3, hA⟩
          refine ⟨_, rfl, _, rfl, d, c, 3, rfl, W10.dr, by decide, by decide, fun r H11 r0 r1 x11 D11 => ⟨r, rfl, ?_⟩⟩
          have W11 := W10.ex x11 D11
          have eal11 := x11.but _ _ nd nc eal
          have hA11 : ∀ v ∈ as, Ask cs H11 v := fun v hv => (hA v hv).ex x11 W10.dr
          refine ⟨al, as, rfl, SqL.of eal11, fun p1 hp1 => ?_⟩
          have s12 := same_upd hp1 (.lst (cutV as (some r) none))
          obtain ⟨n1, n2⟩ := D11.free hp1
          have D12 := D11.same s12
          refine ⟨_, rfl, ?_⟩
          refine ⟨_, rfl, d, c, 3, rfl, D12, by decide, by decide, fun r' H13 r0' r1' x13 D13 => ⟨r', rfl, ?_⟩⟩
          have eal13 := x13.but _ _ nd nc (s12 _ _ eal11)
          refine ⟨al, as, rfl, SqL.of eal13, fun p2 hp2 => ?_⟩
          have s14 := same_upd hp2 (.lst (cutV as none (some r')))
          have ep1 := s14 _ _ (x13.but _ _ n1 n2 (upd_same (H := H11) (a := p1) (o := .lst (cutV as (some r) none))))
          have lc1 := cutV_length as (some r) none
          have lc2 := cutV_length as none (some r')
          refine ⟨p1, p2, _, _, rfl, rfl, ep1, upd_same, Nat.le_of_lt (small1000 (by omega)), fun fl hfl => ?_⟩
          have s15 := same_upd hfl (.lst (cutV as (some r) none ++ cutV as none (some r')))
          have s1415 := s14.trans s15
          have W13 := (W11.same s12).ex x13 D13
          have W15 := W13.same s1415
          have ekl15 := s1415 _ _ (x13.but _ _ kd kc (s12 _ _ (x11.but _ _ kd kc ekl10)))
          have iV15 := (IsL.ex x13 D12 ((IsL.ex x11 W10.dr iV10).same s12)).same s1415
          have hA15 : ∀ v ∈ as, Ask cs (upd (upd H13 p2 (.lst (cutV as none (some r')))) fl (.lst (cutV as (some r) none ++ cutV as none (some r')))) v := fun v hv => (((hA11 v hv).same s12).ex x13 D12).same s1415
          have hF : ∀ v ∈ cutV as (some r) none ++ cutV as none (some r'), v ∈ as := fun v hv => by
            rcases List.mem_append.mp hv with h | h <;> exact cutV_mem h
          generalize cutV as (some r) none ++ cutV as none (some r') = fs at *
          refine ⟨fl, rfl, ⟨fs, SqL.of upd_same⟩, ?_⟩
          generalize hH15 : upd (upd H13 p2 (.lst (cutV as none (some r')))) fl (.lst fs) = H15 at *
          have efl : H15 fl = some (.lst fs) := by rw [← hH15]; exact upd_same
          refine for_list (K := K) (a := fl) (xs := fs) (fun j σ H16 => ∃ y8 y9 y10, σ = [some (.ref a), some (.ref d), some (.ref ta), some (.ref kl), y4, y5, some x, some (.ref al), y8, y9, y10, none, none, none, none, none, none, none] ∧ Same H15 H16) ?_ ?_ ?_ ?_
          · exact ⟨_, _, _, rfl, .refl _⟩
          · exact fun j σ H16 _ ⟨_, _, _, _, s16⟩ => SqL.of (s16 _ _ efl)
          · rintro j v σ H16 hv ⟨y8, y9, y10, rfl, s16⟩
            obtain ⟨q, xo, t, b, rfl, eq, ixo, dt, fb⟩ := (hA15 v (hF v (List.mem_of_getElem? hv))).same s16
            refine ⟨q, _, rfl, .inl (.inl eq), rfl, _, _, rfl, _, _, rfl, rfl, ?_⟩
            refine ⟨_, rfl, _, rfl, .ref ta, xo, mk, F, cs, t, rfl, (W15.it.same s16), G, ixo, by omega, by omega, fun H17 s17 => ?_⟩
            rw [fb]
            refine ⟨_, rfl, _, _, .type "bool", _, true, rfl, .ty _, .base (.bl b), kit_ty (by decide +kernel), _, rfl, iteF ⟨_, rfl, _, rfl, rfl, _, rfl, ite2 (fun c => absurd c (by simp)) (fun _ => ?_)⟩⟩
            exact ⟨_, _, _, rfl, s16.trans s17⟩
          · rintro σ H16 ⟨y8, y9, y10, rfl, s16⟩
            exact ⟨_, _, _, _, _, rfl, W15.same s16, s16 _ _ ekl15, iV15.same s16⟩
      · rintro σ H5 ⟨y6, y7, y8, y9, y10, rfl, W5, ekl5, iV5⟩
        exact ⟨_, _, _, _, _, rfl, W5⟩
    rintro σ H5 ⟨y6, y7, y8, y9, y10, rfl, W5⟩
    refine ⟨fun σ H6 => True, ?_, fun σ H6 _ => q H6⟩
    refine ⟨_, rfl, _, rfl, d, c, .ref ta, mk, F, cs, rfl, W5.dr, W5.it, G, fun hl H6 xs hs x6 D6 nld nlc el iX hG h3 => ⟨hl, rfl, ⟨xs, SqL.of el⟩, ?_⟩⟩
    have W6 := W5.ex x6 D6
    refine for_list (K := K) (a := hl) (xs := xs) (fun i σ H7 => ∃ y6 y9 y11 y12 y13, σ = [some (.ref a), some (.ref d), some (.ref ta), some (.ref kl), y4, y5, y6, y7, y8, y9, y10, y11, y12, y13, none, none, none, none] ∧ Wd TT d c (.ref ta) kl mk F cs ts H7 ∧ H7 hl = some (.lst xs) ∧ IsL H7 xs (hs.map hdPV)) ?_ ?_ ?_ ?_
    · exact ⟨_, _, _, _, _, rfl, W6, el, iX⟩
    · exact fun i σ H7 _ ⟨_, _, _, _, _, _, _, e, _⟩ => SqL.of e
    · rintro i x σ H7 hx ⟨y6, y9, y11, y12, y13, rfl, W7, el7, iX7⟩
      obtain ⟨t, et, ix⟩ := iX7.get hx
      rw [List.getElem?_map] at et
      obtain ⟨h, hh, rfl⟩ := Option.map_eq_some_iff.mp et
      have pg := hG h (List.mem_of_getElem? hh)
      obtain ⟨ha, pa, iv, ov, pvs, rfl, eha, epa, pL⟩ := hd_inv ix
      have pl := pL.len
      rw [List.length_map] at pl
      have p3 := pg.len
      refine ⟨fun σ H8 => ∃ va us ts2, σ = [some (.ref a), some (.ref d), some (.ref ta), some (.ref kl), y4, y5, y6, y7, y8, y9, y10, some (.ref ha), some (.ref va), y13, none, none, none, none] ∧ Ex d c H7 H8 ∧ Dr H8 d c ∧ H8 va = some (.tup us) ∧ IsL H8 us ts2 ∧ (∀ t ∈ ts2, RVn cs 18 t) ∧ ts2.length ≤ 3, ?_, ?_⟩
      · obtain ⟨vs, ekl, iV⟩ := W7.kn
        have vl := iV.len
        have kd := W7.nd
        have kc := W7.nc
        refine ⟨_, rfl, ha, _, _, _, rfl, rfl, .inl (.inl eha), atI_nat (j := 1) rfl, pa, rfl, ⟨_, .inl (.inl epa)⟩, fun D hD => ?_⟩
        obtain ⟨nDd, nDc⟩ := W7.dr.free hD
        have sD := same_upd hD (.lst [])
        refine lc_tup (K := K) (a := pa) (xs := pvs) (fun j H9 => Ex d c H7 H9 ∧ Dr H9 d c ∧ ∃ ws us, H9 D = some (.lst ws) ∧ IsL H9 ws us ∧ (∀ u ∈ us, RVn cs 18 u) ∧ us.length ≤ j) ?_ ?_ ?_ ?_
        · exact ⟨.of sD, W7.dr.same sD, [], [], upd_same, .nil, (fun u h => by cases h), Nat.le_refl _⟩
        · exact fun j H9 _ ⟨x9, _⟩ => .inl (.inl (x9.keep W7.dr epa fun _ z => by cases z))
        · rintro j z H9 hz ⟨x9, D9, ws, us, eD, hW, ug, ul⟩
          have ekl9 := x9.but _ _ kd kc ekl
          have j3 : j < pvs.length := (List.getElem?_eq_some_iff.mp hz).1
          refine ⟨rfl, _, rfl, kl, vs, rfl, .inl (SqL.of ekl9), _, _, rfl, rfl, _, rfl, ite2 (fun cz => ?_) (fun _ => ⟨x9, D9, ws, us, eD, hW, ug, by omega⟩)⟩
          have v1 : 1 ≤ vs.length := by
            have : (0 : Int) < (vs.length : Int) := by simpa using cz
            omega
          refine ⟨_, rfl, _, rfl, d, c, kl, vs, rfl, D9, .inl ekl9, kd, kc, v1, by omega, fun y H10 hy x10 D10 => ?_⟩
          obtain ⟨t, ht, it⟩ := isL_mem iV hy
          have eD10 := x10.but _ _ nDd nDc eD
          have wl := hW.len
          refine ⟨ws, eD10, small1000 (by omega), (x9.trans x10).own hD _, D10.own nDd nDc, ws ++ [y], us ++ [t], upd_same, IsL.wr eD10 ((IsL.ex x10 D9 hW).append (.cons ((it.ex x9 W7.dr).ex x10 D9) .nil)), ?_, by rw [List.length_append]; simp only [List.length_cons, List.length_nil]; omega⟩
          intro u hu2
          rcases List.mem_append.mp hu2 with h | h
          · exact ug u h
          · rw [List.mem_singleton.mp h]; exact kg t ht
        · rintro H9 ⟨x9, D9, ws, us, eD, hW, ug, ul⟩
          refine ⟨D, ws, rfl, .inl ⟨SqL.of eD, fun l hl => ?_⟩⟩
          have s2 := same_upd hl (.tup ws)
          exact ⟨l, ws, us, rfl, x9.trans (.of s2), D9.same s2, upd_same, hW.same s2, ug, by omega⟩
      rintro σ H8 ⟨va, us, ts2, rfl, x8, D8, eva, iU, ug, u3⟩
      have W8 := W7.ex x8 D8
      have el8 := x8.but _ _ nld nlc el7
      have iX8 := IsL.ex x8 W7.dr iX7
      have eha8 := x8.keep W7.dr eha fun _ z => by cases z
      have epa8 := x8.keep W7.dr epa fun _ z => by cases z
      have pL8 := IsL.ex x8 W7.dr pL
      have ul := iU.len
      refine ⟨_, rfl, va, _, rfl, .inr (.inl (.inl eva)), _, rfl, ha, _, _, _, rfl, rfl, .inl (.inl eha8), atI_nat (j := 1) rfl, pa, _, rfl, .inr (.inl (.inl epa8)), rfl, _, rfl, ite2 (fun ceq => ?_) (fun _ => ?_)⟩
      · have ceq2 : h.ps.length = ts2.length := by
          have : (us.length : Int) = (pvs.length : Int) := V.int.inj (of_decide_eq_true ceq)
          omega
        have idx : ∀ t ∈ ts2, RawV cs t := fun t ht => by obtain ⟨_, _, r, _⟩ := ug t ht; exact r
        have dl : depL ts2 ≤ 18 := depL_le fun t ht => by obtain ⟨_, _, _, d⟩ := ug t ht; exact d
        refine ⟨fun σ H9 => ∃ y6 fa ws, σ = [some (.ref a), some (.ref d), some (.ref ta), some (.ref kl), y4, y5, y6, y7, y8, y9, y10, some (.ref ha), some (.ref va), some (.ref fa), none, none, none, none] ∧ Same H8 H9 ∧ H9 fa = some (.lst ws) ∧ KindL H9 ws (idxL cs ts2), ?_, ?_⟩
        · refine ⟨_, rfl, va, rfl, ⟨_, .inl (.inl eva)⟩, fun D hD => ?_⟩
          refine lc_pickT (K := K) (a := va) (xs := us) ordS (fun _ => true) (fun H v (t : PV) => Is H v t) (fun H v t => KindIs H v (idxOf cs t)) (fun H' s => .inl (.inl (s _ _ eva))) (isL_pair (F := id) (by rw [List.map_id]; exact iU)) (fun s h => h.same s) (fun s h => h.same s) (fun e h => h.wr e) hD (by omega) (fun x y H9 Q' Z hx hy s9 y1 y0 => ?_) (fun H9 ws s9 eD p9 => ?_)
          · obtain ⟨l, rfl, raw, dd⟩ := ug y hy
            exact ⟨rfl, yes_if ⟨_, rfl, _, rfl, .ref ta, x, mk, F, cs, l, rfl, W8.it.same s9, G, hx, raw, by omega, by omega, fun r H10 s10 hk => y1 rfl r H10 s10 hk⟩⟩
          · rw [filt_all] at p9
            have hK := pair_kindL p9
            rw [← idxL_map] at hK
            exact ⟨_, D, ws, rfl, s9, eD, hK⟩
        rintro σ H9 ⟨y6', fa, ws, rfl, s9, efa, hK⟩
        have trees := idxL_tree CG ts2 idx
        have no : ∀ k ∈ idxL cs ts2, ∀ z, k = some z → NoO z.2 := fun k hk z hz => tm_no (gr_tm (trees k hk z hz).2.1)
        have ksl : (idxL cs ts2).length = ts2.length := by rw [idxL_map, List.length_map]
        have wl := hK.len
        have eha9 := s9 _ _ eha8
        have epa9 := s9 _ _ epa8
        have pL9 := pL8.same s9
        refine ⟨fun σ H10 => ∃ dv, σ = [some (.ref a), some (.ref d), some (.ref ta), some (.ref kl), y4, y5, y6', y7, y8, some dv, y10, some (.ref ha), some (.ref va), some (.ref fa), none, none, none, none] ∧ Same H9 H10 ∧ Due h.ps (idxL cs ts2) H10 dv, ?_, ?_⟩
        · refine ⟨_, rfl, fa, ws, idxL cs ts2, rfl, rfl, efa, hK, no, ⟨_, rfl, ite2 (fun ch => ?_) (fun ch => ?_)⟩⟩
          case refine_2 =>
            refine iteF ⟨.non, rfl, .refl _, .inl ⟨?_, rfl⟩⟩
            unfold treesFor
            rw [if_neg]
            intro good
            have an : (idxL cs ts2).any (·.isNone) = true := by simpa using ch
            obtain ⟨k, hk, e⟩ := List.any_eq_true.mp an
            obtain ⟨y, rfl⟩ := goodK_some (by omega) good k hk
            cases e
          obtain ⟨kk, ekk⟩ := all_some (ks := idxL cs ts2) (by simpa using ch)
          rw [ekk] at hK
          have hPr := kindL_pr hK
          have kkl : kk.length = ts2.length := by
            have := congrArg List.length ekk
            rw [List.length_map] at this
            omega
          refine ⟨_, rfl, fa, rfl, ⟨_, SqL.of efa⟩, fun D3 hD3 => ?_⟩
          refine lc_pickL (K := K) (a := fa) (xs := ws) ordS (fun _ => true) (fun H v (p : Str × PV) => Is H v (prPV p)) (fun _ v (p : Str × PV) => v = V.str p.1) (fun H' s => SqL.of (s _ _ efa)) (isL_pair hPr) (fun s h => h.same s) (fun _ h => h) (fun _ h => h) hD3 (by omega) (fun x y H9 Q' Z hx hy s9 y1 y0 => ?_) (fun H10 ws5 s10 eD5 p5 => ?_)
          · obtain ⟨xa, tv, rfl, ex, it, k⟩ := pr_inv hx
            exact ⟨rfl, yes_if ⟨_, rfl, xa, _, _, _, rfl, rfl, .inl (.inl ex), atI_nat (j := 0) rfl, y1 rfl _ _ (.refl _) rfl⟩⟩
          rw [filt_all] at p5
          have e5 := pair_strs p5
          subst e5
          refine ⟨_, rfl, ha, _, _, _, rfl, rfl, .inl (.inl (s10 _ _ eha9)), atI_nat (j := 1) rfl, pa, rfl, ⟨_, .inl (.inl (s10 _ _ epa9))⟩, fun D4 hD4 => ?_⟩
          refine lc_pickT (K := K) (a := pa) (xs := pvs) ordS (fun _ => true) (fun H v (p : Str × PV) => Is H v (prPV p)) (fun _ v (p : Str × PV) => v = V.str p.1) (fun H' s => .inl (.inl (s _ _ (s10 _ _ epa9)))) (isL_pair (pL9.same s10)) (fun s h => h.same s) (fun _ h => h) (fun _ h => h) hD4 (by omega) (fun x y H9 Q' Z hx hy s9 y1 y0 => ?_) (fun H11 ws6 s11 eD6 p6 => ?_)
          · obtain ⟨xa, tv, rfl, ex, it, k⟩ := pr_inv hx
            exact ⟨rfl, yes_if ⟨_, rfl, xa, _, _, _, rfl, rfl, .inl (.inl ex), atI_nat (j := 0) rfl, y1 rfl _ _ (.refl _) rfl⟩⟩
          rw [filt_all] at p6
          have e6 := pair_strs p6
          subst e6
          refine rEq_strs (SqL.of (s11 _ _ eD5)) (SqL.of eD6) (sok_map (isL_sok hPr)) (sok_map (isL_sok pL9)) ⟨_, rfl, ite2 (fun cf => ?_) (fun cf => ?_)⟩
          case refine_2 =>
            refine ⟨.non, rfl, s10.trans s11, .inl ⟨?_, rfl⟩⟩
            unfold treesFor
            rw [if_neg]
            rw [ekk, goodK_fam (by omega)]
            simpa using cf
          have good : goodK h.ps (idxL cs ts2) = true := by
            rw [ekk, goodK_fam (by omega)]
            simpa using cf
          have eTF : treesFor h.ps (idxL cs ts2) = lfit (h.ps.map (·.2)) (kk.map (·.2)) := by
            unfold treesFor lfit
            rw [if_pos good, ekk, treeK_some]
          have s911 := s10.trans s11
          refine ⟨_, rfl, ha, _, _, _, rfl, rfl, .inl (.inl (s911 _ _ eha9)), atI_nat (j := 1) rfl, pa, rfl, ⟨_, .inl (.inl (s911 _ _ epa9))⟩, fun D5 hD5 => ?_⟩
          refine lc_pickT (K := K) (a := pa) (xs := pvs) ordS (fun _ => true) (fun H v (p : Str × PV) => Is H v (prPV p)) (fun H v (p : Str × PV) => Is H v p.2) (fun H' s => .inl (.inl (s _ _ (s911 _ _ epa9)))) (isL_pair (pL9.same s911)) (fun s h => h.same s) (fun s h => h.same s) (fun e h => h.wr e) hD5 (by omega) (fun x y H9 Q' Z hx hy s9 y1 y0 => ?_) (fun H12 ws7 s12 eD7 p7 => ?_)
          · obtain ⟨xa, tv, rfl, ex, it, k⟩ := pr_inv hx
            exact ⟨rfl, yes_if ⟨_, rfl, xa, _, _, _, rfl, rfl, .inl (.inl ex), atI_nat (j := 1) rfl, y1 rfl _ _ (.refl _) it⟩⟩
          rw [filt_all] at p7
          have s912 := s911.trans s12
          refine ⟨_, rfl, fa, rfl, ⟨_, SqL.of (s912 _ _ efa)⟩, fun D6 hD6 => ?_⟩
          refine lc_pickL (K := K) (a := fa) (xs := ws) ordS (fun _ => true) (fun H v (p : Str × PV) => Is H v (prPV p)) (fun H v (p : Str × PV) => Is H v p.2) (fun H' s => SqL.of (s _ _ (s912 _ _ efa))) (isL_pair (hPr.same s912)) (fun s h => h.same s) (fun s h => h.same s) (fun e h => h.wr e) hD6 (by omega) (fun x y H9 Q' Z hx hy s9 y1 y0 => ?_) (fun H13 ws8 s13 eD8 p8 => ?_)
          · obtain ⟨xa, tv, rfl, ex, it, k⟩ := pr_inv hx
            exact ⟨rfl, yes_if ⟨_, rfl, xa, _, _, _, rfl, rfl, .inl (.inl ex), atI_nat (j := 1) rfl, y1 rfl _ _ (.refl _) it⟩⟩
          rw [filt_all] at p8
          have i7 : IsL H13 ws7 (h.ps.map (·.2)) := IsL.same s13 (pair_isL p7)
          have i8 : IsL H13 ws8 (kk.map (·.2)) := pair_isL p8
          obtain ⟨fps, vz⟩ := ps_vsz pg.each pg.len
          have kt : ∀ t ∈ kk.map (·.2), TreeG MK 60 t := fun t ht => by
            obtain ⟨k, hk, rfl⟩ := List.mem_map.mp ht
            obtain ⟨a1, a2, a3⟩ := trees (some k) (by rw [ekk]; exact List.mem_map.mpr ⟨k, hk, rfl⟩) k rfl
            exact ⟨a1, a2, by omega⟩
          have s913 := s912.trans s13
          refine ⟨D5, D6, ws7, ws8, _, _, rfl, s13 _ _ eD7, eD8, i7, i8, fps, by rw [List.length_map, List.length_map]; omega, vz, kt, by decide, fun al f H14 hal s14 ⟨al', hA, nd, gA, eq⟩ => ?_, fun hn H14 s14 => ?_⟩
          · exact ⟨.ref f, rfl, s913.trans s14, .inr ⟨al, al', f, by rw [eTF, hal], rfl, hA, nd, eq⟩⟩
          · exact ⟨.non, rfl, s913.trans s14, .inl ⟨by rw [eTF, hn], rfl⟩⟩
        rintro σ H10 ⟨dv, rfl, s10, hDue⟩
        have s810 := s9.trans s10
        have ix10 : Is H10 (.ref ha) (hdPV h) := (ix.ex x8 W7.dr).same s810
        obtain ⟨_, hvs, e0, eh10, hL10⟩ := ix10.tup_inv
        cases e0
        refine ⟨_, rfl, _, rfl, (by show 0 ≤ sizeLine; decide), fun e1 he1 => ⟨(by show 1 ≤ sizeLine; decide), fun e2 he2 => ?_⟩⟩
        have u1 := same_upd he1 (.tup [])
        have u2 := same_upd he2 (.tup [.ref e1])
        have u12 := u1.trans u2
        refine go_catT (u12 _ _ eh10) upd_same (hL10.same u12) (.cons (.tup (u2 _ _ upd_same) .nil) .nil) (by simp) (by simp) fun v H11 s11 iv11 => ?_
        obtain ⟨fa2, fvs, rfl, ef2, fL2⟩ := iv11.tup_inv
        cases fL2 with
        | @cons x0 _ _ _ ix0 fL2 =>
        cases fL2 with
        | @cons pv_ rest _ _ ipv fL2 =>
        have s1011 := u12.trans s11
        have s811 := s810.trans s1011
        have W11 := W8.same s811
        have eva11 := s811 _ _ eva
        have finish : ∀ H', Sx TT H11 H' → ∃ y6 y9 y11 y12 y13, [some (.ref a), some (.ref d), some (.ref ta), some (.ref kl), y4, y5, y6', y7, y8, some dv, y10, some (.ref ha), some (.ref va), some (.ref fa), none, none, none, none] = [some (.ref a), some (.ref d), some (.ref ta), some (.ref kl), y4, y5, y6, y7, y8, y9, y10, y11, y12, y13, none, none, none, none] ∧ Wd TT d c (.ref ta) kl mk F cs ts H' ∧ H' hl = some (.lst xs) ∧ IsL H' xs (hs.map hdPV) := fun H' z =>
          ⟨_, _, _, _, _, rfl, W11.sx z, z.li (s811 _ _ el8), IsL.sx z (iX8.same s811)⟩
        refine ⟨_, rfl, .ref ta, fa2, va, x0, pv_, rest, us, mk, F, cs, h.ps, ts2, rfl, W11.tab, W11.it, G, ef2, ipv, pg, .inl (.inl eva11), fun H' z => .inl (.inl (z.tup eva11)), iU.same s811, fun t ht => ?_, ceq2, fun al hal f H12 z12 hA => ?_, fun hn H12 z12 => ?_⟩
        · obtain ⟨l, e, raw, dd⟩ := ug t ht
          exact ⟨l, e, raw, by omega, by omega⟩
        · rcases hDue with ⟨e, _⟩ | ⟨al2, al', g, e, rfl, hA2, nd2, eq2⟩
          · rw [hal] at e; cases e
          · rw [hal] at e
            cases e
            have hA3 := (hA2.same s1011).sx z12
            have nd1 : (al.map (·.1)).Nodup := by
              unfold treesFor at hal
              split at hal
              · split at hal
                · cases hal
                  exact fitL_nd _ _ _ List.nodup_nil
                · cases hal
              · cases hal
            have gr1 : GrA al := by
              unfold treesFor at hal
              split at hal
              · split at hal
                · rename_i good fits
                  cases hal
                  have tg : ∀ t ∈ (idxL cs ts2).map treeK, TreeG MK 60 t := fun t ht => by
                    obtain ⟨k, hk, rfl⟩ := List.mem_map.mp ht
                    obtain ⟨y, rfl⟩ := goodK_some (by omega) good k hk
                    obtain ⟨a1, a2, a3⟩ := trees _ hk y rfl
                    show TreeG MK 60 y.2
                    exact ⟨a1, a2, by omega⟩
                  intro kv hkv
                  obtain ⟨_, b1, b2⟩ := fitL_down TreeG.down _ _ [] tg (fun kv h => by cases h) kv hkv
                  exact ⟨b1, by omega⟩
                · cases hal
              · cases hal
            exact ⟨_, rfl, ne_alike hA hA3 nd1 nd2 gr1 (fun z => (eq2 z).symm) ⟨_, rfl, iteF (finish _ z12)⟩⟩
        · rcases hDue with ⟨_, rfl⟩ | ⟨al2, al', g, e, rfl, _⟩
          · exact ⟨_, rfl, .inl ⟨rfl, rfl, ⟨_, rfl, iteF (finish _ z12)⟩⟩⟩
          · rw [hn] at e; cases e
      · exact ⟨_, _, _, _, _, rfl, W8, el8, iX8⟩
    · exact fun _ _ _ => trivial
end
end Kx
/-! The end: the program's top leaves the defs where the text says; the tables of the defs that make lambdas are empty. -/
namespace Kx
open PySem PySem.Spec PyProof.Rows L2
/-- what the head tells of a def's code object and its table -/
def TabOf (mg : Str → Option Value) (h : Heap) (x : Str) : Prop := ∃ a o fd c P, mg x = some (.ref a) ∧ h.get? a = some o ∧ o.data = .func fd ∧ fd.code = .ref c ∧ h.IsCode c P #[] ∧ h.TableAt c P #[]
theorem tab_of {K : PySem.W.Frag} {mg : Str → Option Value} {h : Heap} {x : Str} {f c P : Addr} {o : Obj} {fd : FuncData} {e : Value} {dd : Option Addr} {vs : Array Value} {sl : Array (Option Value)} (X : K.In h) (t : TabOf mg h x) (hx : mg x = some (.ref f)) (l : K.lookup f = some o) (ho : o.data = .func fd) (hc : fd.code = .ref c)
    (tc : K.lookup c = some ⟨e, dd, .fields vs, sl⟩) (p : vs[11]? = some (.ref P)) : h.get? P = some { cls := .none, data := .fields #[] } ∧ PySem.W.CodeHd h c P := by
  obtain ⟨a', o', fd', c', P', h1, h2, h3, h4, h5, h6⟩ := t
  rw [hx] at h1
  cases h1
  rw [X _ _ l] at h2
  cases h2
  rw [ho] at h3
  cases h3
  rw [hc] at h4
  cases h4
  have hd := PySem.W.CodeHd.of h5 h6
  obtain ⟨⟨oc, vc, e1, _, e3, e4⟩, hP⟩ := h6
  rw [X _ _ tc] at e1
  cases e1
  cases e3
  rw [p] at e4
  cases e4
  exact ⟨hP, hd⟩
theorem all_mk {l : PySem.W.OpenLaw} {w : World} {K : PySem.W.Frag} {h : Heap} {mg : Str → Option Value} {fa f0 f1 f2 f3 f4 f5 f6 f7 f8 f9 f10 f11 f12 f13 f14 f15 f16 f17 f18 f19 f20 f21 f22 f23 f24 f25 f26 f27 f28 f29 f30 : Addr} (X : K.In h) (G : h.Ns mainGlobals mg) (hfa : mg "law" = some (.ref fa))
    {od0 an0 od1 an1 od2 an2 od3 an3 od4 an4 od5 an5 od6 an6 od7 an7 od8 an8 od9 an9 od10 an10 od11 an11 od12 an12 od13 an13 od14 an14 od15 an15 od16 an16 od17 an17 od18 an18 od19 an19 od20 an20 od21 an21 od22 an22 od23 an23 od24 an24 od25 an25 od26 an26 od27 an27 od28 an28 od29 an29 od30 an30 : Option Addr} {sl0 sl1 sl2 sl3 sl4 sl5 sl6 sl7 sl8 sl9 sl10 sl11 sl12 sl13 sl14 sl15 sl16 sl17 sl18 sl19 sl20 sl21 sl22 sl23 sl24 sl25 sl26 sl27 sl28 sl29 sl30 : Array (Option Value)} {oc0 kV0 dc0 pm0 cd0 ct0 oc1 kV1 dc1 pm1 cd1 ct1 oc2 kV2 dc2 pm2 cd2 ct2 oc3 kV3 dc3 pm3 cd3 ct3 oc4 kV4 dc4 pm4 cd4 ct4 oc5 kV5 dc5 pm5 cd5 ct5 oc6 kV6 dc6 pm6 cd6 ct6 oc7 kV7 dc7 pm7 cd7 ct7 oc8 kV8 dc8 pm8 cd8 ct8 oc9 kV9 dc9 pm9 cd9 ct9 oc10 kV10 dc10 pm10 cd10 ct10 oc11 kV11 dc11 pm11 cd11 ct11 oc12 kV12 dc12 pm12 cd12 ct12 oc13 kV13 dc13 pm13 cd13 ct13 oc14 kV14 dc14 pm14 cd14 ct14 oc15 kV15 dc15 pm15 cd15 ct15 oc16 kV16 dc16 pm16 cd16 ct16 oc17 kV17 dc17 pm17 cd17 ct17 oc18 kV18 dc18 pm18 cd18 ct18 oc19 kV19 dc19 pm19 cd19 ct19 oc20 kV20 dc20 pm20 cd20 ct20 oc21 kV21 dc21 pm21 cd21 ct21 oc22 kV22 dc22 pm22 cd22 ct22 oc23 kV23 dc23 pm23 cd23 ct23 oc24 kV24 dc24 pm24 cd24 ct24 oc25 kV25 dc25 pm25 cd25 ct25 oc26 kV26 dc26 pm26 cd26 ct26 oc27 kV27 dc27 pm27 cd27 ct27 oc28 kV28 dc28 pm28 cd28 ct28 oc29 kV29 dc29 pm29 cd29 ct29 oc30 kV30 dc30 pm30 cd30 ct30 : Value}
    {C0 : Addr} (aC0 : PySem.W.nsIn K mainGlobals "Kept" = some (some (.ref C0))) (pg0 : PySem.W.plainGet K C0 Str.empty = true) (hd0 : PySem.W.hasDictIn K C0 = true) (po0 : PySem.W.plainOver K C0 = true) (sa0 : PySem.W.findIn K (.ref C0) "__setattr__" = some (some (.builtin "object.__setattr__"))) (mk0 : PySem.W.makesIn K C0 = true) (kc0 : PySem.W.keepIn K (.ref C0) = true) (nx0_0 : PySem.W.findIn K (.ref C0) "rows" = some none)
    {ti0 : Tok} (gi0 : PySem.W.nsIn K mainGlobals "MOST_KEPT" = some (some (.int 32 ti0)))
    (a0 : PySem.W.findIn K (.ref C0) "__init__" = some (some (.ref f0))) (i0 : PySem.W.isFn K (.ref f0) = true) (l0 : K.lookup f0 = some ⟨oc0, od0, .func (PySem.W.fnOf "__init__" "Kept.__init__" (defArgs s_Kept_init) (defBody s_Kept_init) (defScope s_Kept_init) .none kV0 dc0 pm0 an0 cd0 ct0), sl0⟩) (c0 : PySem.W.codeIn K cd0 "Kept.__init__" = true) (k0 : PySem.W.keepIn K (.ref f0) = true)
    (a1 : PySem.W.findIn K (.ref C0) "pair_of" = some (some (.ref f1))) (i1 : PySem.W.isFn K (.ref f1) = true) (l1 : K.lookup f1 = some ⟨oc1, od1, .func (PySem.W.fnOf "pair_of" "Kept.pair_of" (defArgs s_Kept_pair_of) (defBody s_Kept_pair_of) (defScope s_Kept_pair_of) .none kV1 dc1 pm1 an1 cd1 ct1), sl1⟩) (c1 : PySem.W.codeIn K cd1 "Kept.pair_of" = true) (k1 : PySem.W.keepIn K (.ref f1) = true)
    (a2 : PySem.W.findIn K (.ref C0) "keep" = some (some (.ref f2))) (i2 : PySem.W.isFn K (.ref f2) = true) (l2 : K.lookup f2 = some ⟨oc2, od2, .func (PySem.W.fnOf "keep" "Kept.keep" (defArgs s_Kept_keep) (defBody s_Kept_keep) (defScope s_Kept_keep) .none kV2 dc2 pm2 an2 cd2 ct2), sl2⟩) (c2 : PySem.W.codeIn K cd2 "Kept.keep" = true) (k2 : PySem.W.keepIn K (.ref f2) = true)
    (a3 : PySem.W.nsIn K mainGlobals "folded" = some (some (.ref f3))) (l3 : K.lookup f3 = some ⟨oc3, od3, .func (PySem.W.fnOf "folded" "folded" (defArgs s_folded) (defBody s_folded) (defScope s_folded) .none kV3 dc3 pm3 an3 cd3 ct3), sl3⟩) (c3 : PySem.W.codeIn K cd3 "folded" = true) (k3 : PySem.W.keepIn K (.ref f3) = true)
    (a4 : PySem.W.nsIn K mainGlobals "_folded" = some (some (.ref f4))) (l4 : K.lookup f4 = some ⟨oc4, od4, .func (PySem.W.fnOf "_folded" "_folded" (defArgs s_folded_) (defBody s_folded_) (defScope s_folded_) .none kV4 dc4 pm4 an4 cd4 ct4), sl4⟩) (c4 : PySem.W.codeIn K cd4 "_folded" = true) (k4 : PySem.W.keepIn K (.ref f4) = true)
    (a5 : PySem.W.nsIn K mainGlobals "is_tree" = some (some (.ref f5))) (l5 : K.lookup f5 = some ⟨oc5, od5, .func (PySem.W.fnOf "is_tree" "is_tree" (defArgs s_is_tree) (defBody s_is_tree) (defScope s_is_tree) .none kV5 dc5 pm5 an5 cd5 ct5), sl5⟩) (c5 : PySem.W.codeIn K cd5 "is_tree" = true) (k5 : PySem.W.keepIn K (.ref f5) = true)
    (a6 : PySem.W.nsIn K mainGlobals "_has_form" = some (some (.ref f6))) (l6 : K.lookup f6 = some ⟨oc6, od6, .func (PySem.W.fnOf "_has_form" "_has_form" (defArgs s_has_form) (defBody s_has_form) (defScope s_has_form) .none kV6 dc6 pm6 an6 cd6 ct6), sl6⟩) (c6 : PySem.W.codeIn K cd6 "_has_form" = true) (k6 : PySem.W.keepIn K (.ref f6) = true)
    (a7 : PySem.W.nsIn K mainGlobals "put" = some (some (.ref f7))) (l7 : K.lookup f7 = some ⟨oc7, od7, .func (PySem.W.fnOf "put" "put" (defArgs s_put) (defBody s_put) (defScope s_put) .none kV7 dc7 pm7 an7 cd7 ct7), sl7⟩) (c7 : PySem.W.codeIn K cd7 "put" = true) (k7 : PySem.W.keepIn K (.ref f7) = true)
    (a8 : PySem.W.nsIn K mainGlobals "fitted" = some (some (.ref f8))) (l8 : K.lookup f8 = some ⟨oc8, od8, .func (PySem.W.fnOf "fitted" "fitted" (defArgs s_fitted) (defBody s_fitted) (defScope s_fitted) .none kV8 dc8 pm8 an8 cd8 ct8), sl8⟩) (c8 : PySem.W.codeIn K cd8 "fitted" = true) (k8 : PySem.W.keepIn K (.ref f8) = true)
    (a9 : PySem.W.nsIn K mainGlobals "_fits" = some (some (.ref f9))) (l9 : K.lookup f9 = some ⟨oc9, od9, .func (PySem.W.fnOf "_fits" "_fits" (defArgs s_fits) (defBody s_fits) (defScope s_fits) .none kV9 dc9 pm9 an9 cd9 ct9), sl9⟩) (c9 : PySem.W.codeIn K cd9 "_fits" = true) (k9 : PySem.W.keepIn K (.ref f9) = true)
    (a10 : PySem.W.nsIn K mainGlobals "is_raw" = some (some (.ref f10))) (l10 : K.lookup f10 = some ⟨oc10, od10, .func (PySem.W.fnOf "is_raw" "is_raw" (defArgs s_is_raw) (defBody s_is_raw) (defScope s_is_raw) .none kV10 dc10 pm10 an10 cd10 ct10), sl10⟩) (c10 : PySem.W.codeIn K cd10 "is_raw" = true) (k10 : PySem.W.keepIn K (.ref f10) = true)
    (a11 : PySem.W.nsIn K mainGlobals "_counts" = some (some (.ref f11))) (l11 : K.lookup f11 = some ⟨oc11, od11, .func (PySem.W.fnOf "_counts" "_counts" (defArgs s_counts) (defBody s_counts) (defScope s_counts) .none kV11 dc11 pm11 an11 cd11 ct11), sl11⟩) (c11 : PySem.W.codeIn K cd11 "_counts" = true) (k11 : PySem.W.keepIn K (.ref f11) = true)
    (a12 : PySem.W.nsIn K mainGlobals "index_of" = some (some (.ref f12))) (l12 : K.lookup f12 = some ⟨oc12, od12, .func (PySem.W.fnOf "index_of" "index_of" (defArgs s_index_of) (defBody s_index_of) (defScope s_index_of) .none kV12 dc12 pm12 an12 cd12 ct12), sl12⟩) (c12 : PySem.W.codeIn K cd12 "index_of" = true) (k12 : PySem.W.keepIn K (.ref f12) = true)
    (a13 : PySem.W.nsIn K mainGlobals "made_kind" = some (some (.ref f13))) (l13 : K.lookup f13 = some ⟨oc13, od13, .func (PySem.W.fnOf "made_kind" "made_kind" (defArgs s_made_kind) (defBody s_made_kind) (defScope s_made_kind) .none kV13 dc13 pm13 an13 cd13 ct13), sl13⟩) (c13 : PySem.W.codeIn K cd13 "made_kind" = true) (k13 : PySem.W.keepIn K (.ref f13) = true)
    (a14 : PySem.W.nsIn K mainGlobals "trees_for" = some (some (.ref f14))) (l14 : K.lookup f14 = some ⟨oc14, od14, .func (PySem.W.fnOf "trees_for" "trees_for" (defArgs s_trees_for) (defBody s_trees_for) (defScope s_trees_for) .none kV14 dc14 pm14 an14 cd14 ct14), sl14⟩) (c14 : PySem.W.codeIn K cd14 "trees_for" = true) (k14 : PySem.W.keepIn K (.ref f14) = true)
    (a15 : PySem.W.nsIn K mainGlobals "size" = some (some (.ref f15))) (l15 : K.lookup f15 = some ⟨oc15, od15, .func (PySem.W.fnOf "size" "size" (defArgs s_size) (defBody s_size) (defScope s_size) .none kV15 dc15 pm15 an15 cd15 ct15), sl15⟩) (c15 : PySem.W.codeIn K cd15 "size" = true) (k15 : PySem.W.keepIn K (.ref f15) = true)
    (a16 : PySem.W.nsIn K mainGlobals "demanded" = some (some (.ref f16))) (l16 : K.lookup f16 = some ⟨oc16, od16, .func (PySem.W.fnOf "demanded" "demanded" (defArgs s_demanded) (defBody s_demanded) (defScope s_demanded) .none kV16 dc16 pm16 an16 cd16 ct16), sl16⟩) (c16 : PySem.W.codeIn K cd16 "demanded" = true) (k16 : PySem.W.keepIn K (.ref f16) = true)
    (a17 : PySem.W.nsIn K mainGlobals "_law_state" = some (some (.ref f17))) (l17 : K.lookup f17 = some ⟨oc17, od17, .func (PySem.W.fnOf "_law_state" "_law_state" (defArgs s_law_state) (defBody s_law_state) (defScope s_law_state) .none kV17 dc17 pm17 an17 cd17 ct17), sl17⟩) (c17 : PySem.W.codeIn K cd17 "_law_state" = true) (k17 : PySem.W.keepIn K (.ref f17) = true)
    (a18 : PySem.W.nsIn K mainGlobals "_law_draw" = some (some (.ref f18))) (l18 : K.lookup f18 = some ⟨oc18, od18, .func (PySem.W.fnOf "_law_draw" "_law_draw" (defArgs s_law_draw) (defBody s_law_draw) (defScope s_law_draw) .none kV18 dc18 pm18 an18 cd18 ct18), sl18⟩) (c18 : PySem.W.codeIn K cd18 "_law_draw" = true) (k18 : PySem.W.keepIn K (.ref f18) = true)
    (a19 : PySem.W.nsIn K mainGlobals "_law_pick" = some (some (.ref f19))) (l19 : K.lookup f19 = some ⟨oc19, od19, .func (PySem.W.fnOf "_law_pick" "_law_pick" (defArgs s_law_pick) (defBody s_law_pick) (defScope s_law_pick) .none kV19 dc19 pm19 an19 cd19 ct19), sl19⟩) (c19 : PySem.W.codeIn K cd19 "_law_pick" = true) (k19 : PySem.W.keepIn K (.ref f19) = true)
    (a20 : PySem.W.nsIn K mainGlobals "_law_shape" = some (some (.ref f20))) (l20 : K.lookup f20 = some ⟨oc20, od20, .func (PySem.W.fnOf "_law_shape" "_law_shape" (defArgs s_law_shape) (defBody s_law_shape) (defScope s_law_shape) .none kV20 dc20 pm20 an20 cd20 ct20), sl20⟩) (c20 : PySem.W.codeIn K cd20 "_law_shape" = true) (k20 : PySem.W.keepIn K (.ref f20) = true)
    (a21 : PySem.W.nsIn K mainGlobals "_law_table" = some (some (.ref f21))) (l21 : K.lookup f21 = some ⟨oc21, od21, .func (PySem.W.fnOf "_law_table" "_law_table" (defArgs s_law_table) (defBody s_law_table) (defScope s_law_table) .none kV21 dc21 pm21 an21 cd21 ct21), sl21⟩) (c21 : PySem.W.codeIn K cd21 "_law_table" = true) (k21 : PySem.W.keepIn K (.ref f21) = true)
    (a22 : PySem.W.nsIn K mainGlobals "_law_heads" = some (some (.ref f22))) (l22 : K.lookup f22 = some ⟨oc22, od22, .func (PySem.W.fnOf "_law_heads" "_law_heads" (defArgs s_law_heads) (defBody s_law_heads) (defScope s_law_heads) .none kV22 dc22 pm22 an22 cd22 ct22), sl22⟩) (c22 : PySem.W.codeIn K cd22 "_law_heads" = true) (k22 : PySem.W.keepIn K (.ref f22) = true)
    (a23 : PySem.W.nsIn K mainGlobals "_law_fit" = some (some (.ref f23))) (l23 : K.lookup f23 = some ⟨oc23, od23, .func (PySem.W.fnOf "_law_fit" "_law_fit" (defArgs s_law_fit) (defBody s_law_fit) (defScope s_law_fit) .none kV23 dc23 pm23 an23 cd23 ct23), sl23⟩) (c23 : PySem.W.codeIn K cd23 "_law_fit" = true) (k23 : PySem.W.keepIn K (.ref f23) = true)
    (a24 : PySem.W.nsIn K mainGlobals "_law_put" = some (some (.ref f24))) (l24 : K.lookup f24 = some ⟨oc24, od24, .func (PySem.W.fnOf "_law_put" "_law_put" (defArgs s_law_put) (defBody s_law_put) (defScope s_law_put) .none kV24 dc24 pm24 an24 cd24 ct24), sl24⟩) (c24 : PySem.W.codeIn K cd24 "_law_put" = true) (k24 : PySem.W.keepIn K (.ref f24) = true)
    (a25 : PySem.W.nsIn K mainGlobals "_law_index" = some (some (.ref f25))) (l25 : K.lookup f25 = some ⟨oc25, od25, .func (PySem.W.fnOf "_law_index" "_law_index" (defArgs s_law_index) (defBody s_law_index) (defScope s_law_index) .none kV25 dc25 pm25 an25 cd25 ct25), sl25⟩) (c25 : PySem.W.codeIn K cd25 "_law_index" = true) (k25 : PySem.W.keepIn K (.ref f25) = true)
    (a26 : PySem.W.nsIn K mainGlobals "_law_grown" = some (some (.ref f26))) (l26 : K.lookup f26 = some ⟨oc26, od26, .func (PySem.W.fnOf "_law_grown" "_law_grown" (defArgs s_law_grown) (defBody s_law_grown) (defScope s_law_grown) .none kV26 dc26 pm26 an26 cd26 ct26), sl26⟩) (c26 : PySem.W.codeIn K cd26 "_law_grown" = true) (k26 : PySem.W.keepIn K (.ref f26) = true)
    (a27 : PySem.W.nsIn K mainGlobals "_law_values" = some (some (.ref f27))) (l27 : K.lookup f27 = some ⟨oc27, od27, .func (PySem.W.fnOf "_law_values" "_law_values" (defArgs s_law_values) (defBody s_law_values) (defScope s_law_values) .none kV27 dc27 pm27 an27 cd27 ct27), sl27⟩) (c27 : PySem.W.codeIn K cd27 "_law_values" = true) (k27 : PySem.W.keepIn K (.ref f27) = true)
    (a28 : PySem.W.nsIn K mainGlobals "_law_size" = some (some (.ref f28))) (l28 : K.lookup f28 = some ⟨oc28, od28, .func (PySem.W.fnOf "_law_size" "_law_size" (defArgs s_law_size) (defBody s_law_size) (defScope s_law_size) .none kV28 dc28 pm28 an28 cd28 ct28), sl28⟩) (c28 : PySem.W.codeIn K cd28 "_law_size" = true) (k28 : PySem.W.keepIn K (.ref f28) = true)
    (a29 : PySem.W.nsIn K mainGlobals "_law_broken" = some (some (.ref f29))) (l29 : K.lookup f29 = some ⟨oc29, od29, .func (PySem.W.fnOf "_law_broken" "_law_broken" (defArgs s_law_broken) (defBody s_law_broken) (defScope s_law_broken) .none kV29 dc29 pm29 an29 cd29 ct29), sl29⟩) (c29 : PySem.W.codeIn K cd29 "_law_broken" = true) (k29 : PySem.W.keepIn K (.ref f29) = true)
    (a30 : PySem.W.nsIn K mainGlobals "law" = some (some (.ref f30))) (l30 : K.lookup f30 = some ⟨oc30, od30, .func (PySem.W.fnOf "law" "law" (defArgs s_law) (defBody s_law) (defScope s_law) .none kV30 dc30 pm30 an30 cd30 ct30), sl30⟩) (c30 : PySem.W.codeIn K cd30 "law" = true) (k30 : PySem.W.keepIn K (.ref f30) = true)
    (z0 : PySem.W.nsIn K mainGlobals "reversed" = some none)
    (z1 : PySem.W.nsIn K mainGlobals "dict" = some none)
    (z2 : PySem.W.nsIn K mainGlobals "isinstance" = some none)
    (z3 : PySem.W.nsIn K mainGlobals "str" = some none)
    (z4 : PySem.W.nsIn K mainGlobals "tuple" = some none)
    (z5 : PySem.W.nsIn K mainGlobals "len" = some none)
    (z6 : PySem.W.nsIn K mainGlobals "zip" = some none)
    (z7 : PySem.W.nsIn K mainGlobals "sum" = some none)
    (z8 : PySem.W.nsIn K mainGlobals "int" = some none)
    (z9 : PySem.W.nsIn K mainGlobals "abs" = some none)
    (z10 : PySem.W.nsIn K mainGlobals "range" = some none)
    (z11 : PySem.W.nsIn K mainGlobals "list" = some none)
    (z12 : PySem.W.nsIn K mainGlobals "max" = some none)
    (z13 : PySem.W.nsIn K mainGlobals "bool" = some none)
    {cc12 P12 : Addr} {et12 : Value} {dt12 : Option Addr} {vt12 : Array Value} {st12 : Array (Option Value)} (e12 : cd12 = .ref cc12) (t12 : K.lookup cc12 = some ⟨et12, dt12, .fields vt12, st12⟩) (p12 : vt12[11]? = some (.ref P12)) (n12 : K.lookup P12 = none) (tb12 : TabOf mg h "index_of")
    {cc15 P15 : Addr} {et15 : Value} {dt15 : Option Addr} {vt15 : Array Value} {st15 : Array (Option Value)} (e15 : cd15 = .ref cc15) (t15 : K.lookup cc15 = some ⟨et15, dt15, .fields vt15, st15⟩) (p15 : vt15[11]? = some (.ref P15)) (n15 : K.lookup P15 = none) (tb15 : TabOf mg h "size")
    (ne12_15 : P12 ≠ P15)
    : LamX.LawAtS l w K CX0 60 63 "script" mg fa h := by
  have e := hfa.symm.trans (PySem.W.mg_of X G a30)
  cases e
  let T : Txt K mg := {
    c_Kept := C0, cl_Kept := ⟨pg0, hd0, po0, sa0⟩, mg_Kept := PySem.W.mg_of X G aC0,
    no_Kept_rows := nx0_0,
    mk_Kept := ⟨mk0, a0, i0, kc0⟩,
    t_MOST_KEPT := ti0, g_MOST_KEPT := PySem.W.mg_of X G gi0,
    a_Kept_init := f0, d_Kept_init := _, F_Kept_init := fun_mk (st := s_Kept_init) l0 c0 k0, b_Kept_init := (fun_mk (st := s_Kept_init) l0 c0 k0).binds (ps := ["self"]) (fun _ _ _ _ _ _ us hl => match us, hl with | [_], _ => rfl), me_Kept_init := ⟨a0, i0, k0⟩,
    a_Kept_pair_of := f1, d_Kept_pair_of := _, F_Kept_pair_of := fun_mk (st := s_Kept_pair_of) l1 c1 k1, b_Kept_pair_of := (fun_mk (st := s_Kept_pair_of) l1 c1 k1).binds (ps := ["self", "tree"]) (fun _ _ _ _ _ _ us hl => match us, hl with | [_, _], _ => rfl), me_Kept_pair_of := ⟨a1, i1, k1⟩,
    a_Kept_keep := f2, d_Kept_keep := _, F_Kept_keep := fun_mk (st := s_Kept_keep) l2 c2 k2, b_Kept_keep := (fun_mk (st := s_Kept_keep) l2 c2 k2).binds (ps := ["self", "tree", "result"]) (fun _ _ _ _ _ _ us hl => match us, hl with | [_, _, _], _ => rfl), me_Kept_keep := ⟨a2, i2, k2⟩,
    a_folded := f3, d_folded := _, F_folded := fun_mk (st := s_folded) l3 c3 k3, b_folded := (fun_mk (st := s_folded) l3 c3 k3).binds (ps := ["tree", "reckon"]) (fun _ _ _ _ _ _ us hl => match us, hl with | [_, _], _ => rfl), m_folded := PySem.W.mg_of X G a3,
    a_folded_ := f4, d_folded_ := _, F_folded_ := fun_mk (st := s_folded_) l4 c4 k4, b_folded_ := (fun_mk (st := s_folded_) l4 c4 k4).binds (ps := ["tree", "reckon", "kept"]) (fun _ _ _ _ _ _ us hl => match us, hl with | [_, _, _], _ => rfl), m_folded_ := PySem.W.mg_of X G a4,
    a_is_tree := f5, d_is_tree := _, F_is_tree := fun_mk (st := s_is_tree) l5 c5 k5, b_is_tree := (fun_mk (st := s_is_tree) l5 c5 k5).binds (ps := ["makers", "value"]) (fun _ _ _ _ _ _ us hl => match us, hl with | [_, _], _ => rfl), m_is_tree := PySem.W.mg_of X G a5,
    a_has_form := f6, d_has_form := _, F_has_form := fun_mk (st := s_has_form) l6 c6 k6, b_has_form := (fun_mk (st := s_has_form) l6 c6 k6).binds (ps := ["parts_by_word", "value", "may_have_names", "kept"]) (fun _ _ _ _ _ _ us hl => match us, hl with | [_, _, _, _], _ => rfl), m_has_form := PySem.W.mg_of X G a6,
    a_put := f7, d_put := _, F_put := fun_mk (st := s_put) l7 c7 k7, b_put := (fun_mk (st := s_put) l7 c7 k7).binds (ps := ["term", "assignment"]) (fun _ _ _ _ _ _ us hl => match us, hl with | [_, _], _ => rfl), m_put := PySem.W.mg_of X G a7,
    a_fitted := f8, d_fitted := _, F_fitted := fun_mk (st := s_fitted) l8 c8 k8, b_fitted := (fun_mk (st := s_fitted) l8 c8 k8).binds (ps := ["patterns", "terms"]) (fun _ _ _ _ _ _ us hl => match us, hl with | [_, _], _ => rfl), m_fitted := PySem.W.mg_of X G a8,
    a_fits := f9, d_fits := _, F_fits := fun_mk (st := s_fits) l9 c9 k9, b_fits := (fun_mk (st := s_fits) l9 c9 k9).binds (ps := ["pattern", "term", "found"]) (fun _ _ _ _ _ _ us hl => match us, hl with | [_, _, _], _ => rfl), m_fits := PySem.W.mg_of X G a9,
    a_is_raw := f10, d_is_raw := _, F_is_raw := fun_mk (st := s_is_raw) l10 c10 k10, b_is_raw := (fun_mk (st := s_is_raw) l10 c10 k10).binds (ps := ["table", "value"]) (fun _ _ _ _ _ _ us hl => match us, hl with | [_, _], _ => rfl), m_is_raw := PySem.W.mg_of X G a10,
    a_counts := f11, d_counts := _, F_counts := fun_mk (st := s_counts) l11 c11 k11, b_counts := (fun_mk (st := s_counts) l11 c11 k11).binds (ps := ["table"]) (fun _ _ _ _ _ _ us hl => match us, hl with | [_], _ => rfl), m_counts := PySem.W.mg_of X G a11,
    a_index_of := f12, d_index_of := _, F_index_of := fun_mk (st := s_index_of) l12 c12 k12, b_index_of := (fun_mk (st := s_index_of) l12 c12 k12).binds (ps := ["table", "value"]) (fun _ _ _ _ _ _ us hl => match us, hl with | [_, _], _ => rfl), m_index_of := PySem.W.mg_of X G a12,
    a_made_kind := f13, d_made_kind := _, F_made_kind := fun_mk (st := s_made_kind) l13 c13 k13, b_made_kind := (fun_mk (st := s_made_kind) l13 c13 k13).binds (ps := ["constructor", "kinds"]) (fun _ _ _ _ _ _ us hl => match us, hl with | [_, _], _ => rfl), m_made_kind := PySem.W.mg_of X G a13,
    a_trees_for := f14, d_trees_for := _, F_trees_for := fun_mk (st := s_trees_for) l14 c14 k14, b_trees_for := (fun_mk (st := s_trees_for) l14 c14 k14).binds (ps := ["asked", "kinds"]) (fun _ _ _ _ _ _ us hl => match us, hl with | [_, _], _ => rfl), m_trees_for := PySem.W.mg_of X G a14,
    a_size := f15, d_size := _, F_size := fun_mk (st := s_size) l15 c15 k15, b_size := (fun_mk (st := s_size) l15 c15 k15).binds (ps := ["value"]) (fun _ _ _ _ _ _ us hl => match us, hl with | [_], _ => rfl), m_size := PySem.W.mg_of X G a15,
    a_demanded := f16, d_demanded := _, F_demanded := fun_mk (st := s_demanded) l16 c16 k16, b_demanded := (fun_mk (st := s_demanded) l16 c16 k16).binds (ps := ["table", "function", "values"]) (fun _ _ _ _ _ _ us hl => match us, hl with | [_, _, _], _ => rfl), m_demanded := PySem.W.mg_of X G a16,
    a_law_state := f17, d_law_state := _, F_law_state := fun_mk (st := s_law_state) l17 c17 k17, b_law_state := (fun_mk (st := s_law_state) l17 c17 k17).binds (ps := ["script"]) (fun _ _ _ _ _ _ us hl => match us, hl with | [_], _ => rfl), m_law_state := PySem.W.mg_of X G a17,
    a_law_draw := f18, d_law_draw := _, F_law_draw := fun_mk (st := s_law_draw) l18 c18 k18, b_law_draw := (fun_mk (st := s_law_draw) l18 c18 k18).binds (ps := ["state", "many"]) (fun _ _ _ _ _ _ us hl => match us, hl with | [_, _], _ => rfl), m_law_draw := PySem.W.mg_of X G a18,
    a_law_pick := f19, d_law_pick := _, F_law_pick := fun_mk (st := s_law_pick) l19 c19 k19, b_law_pick := (fun_mk (st := s_law_pick) l19 c19 k19).binds (ps := ["state", "row"]) (fun _ _ _ _ _ _ us hl => match us, hl with | [_, _], _ => rfl), m_law_pick := PySem.W.mg_of X G a19,
    a_law_shape := f20, d_law_shape := _, F_law_shape := fun_mk (st := s_law_shape) l20 c20 k20, b_law_shape := (fun_mk (st := s_law_shape) l20 c20 k20).binds (ps := ["kind", "own", "other", "third"]) (fun _ _ _ _ _ _ us hl => match us, hl with | [_, _, _, _], _ => rfl), m_law_shape := PySem.W.mg_of X G a20,
    a_law_table := f21, d_law_table := _, F_law_table := fun_mk (st := s_law_table) l21 c21 k21, b_law_table := (fun_mk (st := s_law_table) l21 c21 k21).binds (ps := ["state"]) (fun _ _ _ _ _ _ us hl => match us, hl with | [_], _ => rfl), m_law_table := PySem.W.mg_of X G a21,
    a_law_heads := f22, d_law_heads := _, F_law_heads := fun_mk (st := s_law_heads) l22 c22 k22, b_law_heads := (fun_mk (st := s_law_heads) l22 c22 k22).binds (ps := ["state", "table"]) (fun _ _ _ _ _ _ us hl => match us, hl with | [_, _], _ => rfl), m_law_heads := PySem.W.mg_of X G a22,
    a_law_fit := f23, d_law_fit := _, F_law_fit := fun_mk (st := s_law_fit) l23 c23 k23, b_law_fit := (fun_mk (st := s_law_fit) l23 c23 k23).binds (ps := ["patterns", "trees"]) (fun _ _ _ _ _ _ us hl => match us, hl with | [_, _], _ => rfl), m_law_fit := PySem.W.mg_of X G a23,
    a_law_put := f24, d_law_put := _, F_law_put := fun_mk (st := s_law_put) l24 c24 k24, b_law_put := (fun_mk (st := s_law_put) l24 c24 k24).binds (ps := ["term", "trees"]) (fun _ _ _ _ _ _ us hl => match us, hl with | [_, _], _ => rfl), m_law_put := PySem.W.mg_of X G a24,
    a_law_index := f25, d_law_index := _, F_law_index := fun_mk (st := s_law_index) l25 c25 k25, b_law_index := (fun_mk (st := s_law_index) l25 c25 k25).binds (ps := ["table", "value"]) (fun _ _ _ _ _ _ us hl => match us, hl with | [_, _], _ => rfl), m_law_index := PySem.W.mg_of X G a25,
    a_law_grown := f26, d_law_grown := _, F_law_grown := fun_mk (st := s_law_grown) l26 c26 k26, b_law_grown := (fun_mk (st := s_law_grown) l26 c26 k26).binds (ps := ["table", "known", "most"]) (fun _ _ _ _ _ _ us hl => match us, hl with | [_, _, _], _ => rfl), m_law_grown := PySem.W.mg_of X G a26,
    a_law_values := f27, d_law_values := _, F_law_values := fun_mk (st := s_law_values) l27 c27 k27, b_law_values := (fun_mk (st := s_law_values) l27 c27 k27).binds (ps := ["table", "rounds", "most"]) (fun _ _ _ _ _ _ us hl => match us, hl with | [_, _, _], _ => rfl), m_law_values := PySem.W.mg_of X G a27,
    a_law_size := f28, d_law_size := _, F_law_size := fun_mk (st := s_law_size) l28 c28 k28, b_law_size := (fun_mk (st := s_law_size) l28 c28 k28).binds (ps := ["value"]) (fun _ _ _ _ _ _ us hl => match us, hl with | [_], _ => rfl), m_law_size := PySem.W.mg_of X G a28,
    a_law_broken := f29, d_law_broken := _, F_law_broken := fun_mk (st := s_law_broken) l29 c29 k29, b_law_broken := (fun_mk (st := s_law_broken) l29 c29 k29).binds (ps := ["state", "value"]) (fun _ _ _ _ _ _ us hl => match us, hl with | [_, _], _ => rfl), m_law_broken := PySem.W.mg_of X G a29,
    a_law := fa, d_law := _, F_law := fun_mk (st := s_law) l30 c30 k30, b_law := (fun_mk (st := s_law) l30 c30 k30).binds (ps := ["script"]) (fun _ _ _ _ _ _ us hl => match us, hl with | [_], _ => rfl), m_law := PySem.W.mg_of X G a30,
    z_reversed := PySem.W.mg_none_of X G z0,
    z_dict := PySem.W.mg_none_of X G z1,
    z_isinstance := PySem.W.mg_none_of X G z2,
    z_str := PySem.W.mg_none_of X G z3,
    z_tuple := PySem.W.mg_none_of X G z4,
    z_len := PySem.W.mg_none_of X G z5,
    z_zip := PySem.W.mg_none_of X G z6,
    z_sum := PySem.W.mg_none_of X G z7,
    z_int := PySem.W.mg_none_of X G z8,
    z_abs := PySem.W.mg_none_of X G z9,
    z_range := PySem.W.mg_none_of X G z10,
    z_list := PySem.W.mg_none_of X G z11,
    z_max := PySem.W.mg_none_of X G z12,
    z_bool := PySem.W.mg_none_of X G z13 }
  subst e12
  subst e15
  obtain ⟨hp12, hc12⟩ := tab_of X tb12 (PySem.W.mg_of X G a12) l12 rfl rfl t12 p12
  obtain ⟨hp15, hc15⟩ := tab_of X tb15 (PySem.W.mg_of X G a15) l15 rfl rfl t15 p15
  refine ⟨PySem.W.fnOf "law" "law" (defArgs s_law) (defBody s_law) (defScope s_law) .none kV30 dc30 pm30 an30 cd30 ct30, [(cc12, P12), (cc15, P15)], spLaw (K := K) [(P12, lamq "index_of"), (P15, lamq "size")], ?_, ?_, ?_, fun _ _ => .of_eq rfl, fun H a ns few _ ht seq => ⟨a, ns, rfl, seq, few, fun p hp => ?_, fun _ => rfl⟩, fun base _ _ hB => ?_⟩
  · intro p hp
    simp only [List.mem_cons, List.not_mem_nil, or_false] at hp
    rcases hp with rfl | rfl
    · exact hp12
    · exact hp15
  · intro p hp
    simp only [List.mem_cons, List.not_mem_nil, or_false] at hp
    rcases hp with rfl | rfl
    · exact n12
    · exact n15
  · intro p hp
    simp only [List.mem_cons, List.not_mem_nil, or_false] at hp
    rcases hp with rfl | rfl
    · exact hc12
    · exact hc15
  · have z : H P12 = some (.tbl #[]) ∧ H P15 = some (.tbl #[]) := ⟨ht (cc12, P12) (by simp), ht (cc15, P15) (by simp)⟩
    obtain ⟨z12, z15⟩ := z
    simp only [List.mem_cons, List.not_mem_nil, or_false] at hp
    rcases hp with rfl | rfl
    · exact LamX.TabS.nil z12
    · exact LamX.TabS.nil z15
  have B12 : LamX.TabB base mg cc12 P12 := hB (cc12, P12) (by simp)
  have F12 : FunC K "index_of" "index_of" s_index_of T.a_index_of T.d_index_of cc12 := ⟨_, _, _, _, _, _, _, _, rfl, l12, c12⟩
  have I12 : (P12, lamq "index_of") ∈ ([(P12, lamq "index_of"), (P15, lamq "size")] : List (Addr × Str)) := by simp
  have U12 : ∀ p ∈ ([(P12, lamq "index_of"), (P15, lamq "size")] : List (Addr × Str)), p.1 = P12 → p.2 = lamq "index_of" := by
    intro p hp e
    simp only [List.mem_cons, List.not_mem_nil, or_false] at hp
    rcases hp with rfl | rfl
    · rfl
    · exact absurd e.symm ne12_15
  have B15 : LamX.TabB base mg cc15 P15 := hB (cc15, P15) (by simp)
  have F15 : FunC K "size" "size" s_size T.a_size T.d_size cc15 := ⟨_, _, _, _, _, _, _, _, rfl, l15, c15⟩
  have I15 : (P15, lamq "size") ∈ ([(P12, lamq "index_of"), (P15, lamq "size")] : List (Addr × Str)) := by simp
  have U15 : ∀ p ∈ ([(P12, lamq "index_of"), (P15, lamq "size")] : List (Addr × Str)), p.1 = P15 → p.2 = lamq "size" := by
    intro p hp e
    simp only [List.mem_cons, List.not_mem_nil, or_false] at hp
    rcases hp with rfl | rfl
    · exact absurd e ne12_15
    · rfl
  have d1 := ok_law_draw (P := l.prog) (w := w) (base := base) T
  have pk := ok_law_pick T d1
  have id1 := ok_index_of (n := 20) T F12 B12 I12 U12 (the_made (P := l.prog) (w := w) (base := base) T) (the_folded (P := l.prog) (w := w) (base := base) T 9)
  have sz1 := ok_size (n := 20) T F15 B15 I15 U15 (the_folded (P := l.prog) (w := w) (base := base) T 1)
  exact ok_law T (ok_law_state T) (ok_law_table T d1 pk (ok_law_shape T)) d1 (ok_law_values T (ok_law_grown T (all_idx T 20))) pk (FnOk.mono id1 (by decide)) (all_idx T 20) (FnOk.mono sz1 (by decide)) (all_lsize T 20) (all_broken T 20) (the_raw T) (ok_law_heads T d1 pk) (ok_law_fit T) (ok_demanded (k := 53) (by decide) T (the_trees T) (FnOk.mono id1 (by decide)))
theorem law_walk {l : PySem.W.OpenLaw} {q : Program} {loose : List Str} {XP : (Str → Option Value) → Heap → Prop} {YP : World → Heap → Prop} {r : DefRec} {K : Params → PySem.W.Frag}
    (h63 : l.most = some 63) (hno : r.params.defaults = []) (r12 : ((recsOf q).any fun e => e.name == ("index_of" : Str)) = true) (r15 : ((recsOf q).any fun e => e.name == ("size" : Str)) = true) (hK : ∀ (w : World) (h : Heap), YP w h → (K w.params).In h)
    (ok : ∀ (w : World) (mg : Str → Option Value) (fa : Addr) (h : Heap), (K w.params).In h → h.Ns mainGlobals mg → mg r.name = some (.ref fa) → TabOf mg h "index_of" → TabOf mg h "size" → LamX.LawAtS l w (K w.params) CX0 60 63 "script" mg fa h) :
    PySem.W.WalkO q loose XP YP l.row.toRowW r [] (fun f vs => PySem.call f vs) := by
  refine Att.attach_callB h63 hno fun w s0 s1 mg mb fa o pm cd doc a vs ns G Y ho hd hcd hmg hobj hints hlen hbits hg => ?_
  have KX := hK w _ Y
  have tab : ∀ x : Str, ((recsOf q).any fun e => e.name == x) = true → TabOf mg s1.heap x := fun x hx => by
    obtain ⟨e, he, en⟩ := List.any_eq_true.mp hx
    have := G.T.tab e he
    rw [beq_iff_eq.mp en] at this
    exact this
  obtain ⟨fd, cs, sp, hT, nT, C, hb, hsp, hF⟩ := ok w mg fa _ KX G.T.g hmg (tab _ r12) (tab _ r15)
  exact LamX.law_callTs KX G.T.g G.T.b G.T.builtins G.T.nolimit hg hT nT C G.T.bmain hobj hints (Nat.le_trans hlen (by decide)) ⟨rfl, by decide, by decide⟩ hF hb (fun H hH hS => hsp H a ns hlen hbits hH hS) fun H e s' z => z
end Kx
open PySem PySem.W PyProof.Rows
set_option maxRecDepth 100000 in
set_option maxHeartbeats 0 in
theorem PySem.Challenge.cw_exactkinds_k11_indices_of_raw_values_holds : PySem.Challenge.rw_exactkinds_k11_indices_of_raw_values.Holds := by
  w_on; o_law; k_head; (case hw => w_witness2)
  k_fill
  refine Kx.law_walk (l := PySem.Challenge.rw_exactkinds_k11_indices_of_raw_values) rfl rfl ?rec12 ?rec15 (fun _ _ Y => PySem.W.km_in_of Y) ?walked
  case rec12 => decide +kernel
  case rec15 => decide +kernel
  case walked =>
    intro w mg fa h inK names hmg tb12 tb15
    refine' Kx.all_mk inK names hmg ?aC0 ?pg0 ?hd0 ?po0 ?sa0 ?mk0 ?kc0 ?nx0_0 ?gi0 ?a0 ?i0 ?l0 ?c0 ?k0 ?a1 ?i1 ?l1 ?c1 ?k1 ?a2 ?i2 ?l2 ?c2 ?k2 ?a3 ?l3 ?c3 ?k3 ?a4 ?l4 ?c4 ?k4 ?a5 ?l5 ?c5 ?k5 ?a6 ?l6 ?c6 ?k6 ?a7 ?l7 ?c7 ?k7 ?a8 ?l8 ?c8 ?k8 ?a9 ?l9 ?c9 ?k9 ?a10 ?l10 ?c10 ?k10 ?a11 ?l11 ?c11 ?k11 ?a12 ?l12 ?c12 ?k12 ?a13 ?l13 ?c13 ?k13 ?a14 ?l14 ?c14 ?k14 ?a15 ?l15 ?c15 ?k15 ?a16 ?l16 ?c16 ?k16 ?a17 ?l17 ?c17 ?k17 ?a18 ?l18 ?c18 ?k18 ?a19 ?l19 ?c19 ?k19 ?a20 ?l20 ?c20 ?k20 ?a21 ?l21 ?c21 ?k21 ?a22 ?l22 ?c22 ?k22 ?a23 ?l23 ?c23 ?k23 ?a24 ?l24 ?c24 ?k24 ?a25 ?l25 ?c25 ?k25 ?a26 ?l26 ?c26 ?k26 ?a27 ?l27 ?c27 ?k27 ?a28 ?l28 ?c28 ?k28 ?a29 ?l29 ?c29 ?k29 ?a30 ?l30 ?c30 ?k30 ?z0 ?z1 ?z2 ?z3 ?z4 ?z5 ?z6 ?z7 ?z8 ?z9 ?z10 ?z11 ?z12 ?z13 ?e12 ?t12 ?p12 ?n12 tb12 ?e15 ?t15 ?p15 ?n15 tb15 ?ne12_15
    (case aC0 => k_is)
    (case pg0 => k_is)
    (case hd0 => k_is)
    (case po0 => k_is)
    (case sa0 => k_is)
    (case mk0 => k_is)
    (case kc0 => k_is)
    (case nx0_0 => k_is)
    (case gi0 => k_is)
    (case a0 => k_is)
    (case i0 => k_is)
    (case l0 => k_is)
    (case c0 => k_is)
    (case k0 => k_is)
    (case a1 => k_is)
    (case i1 => k_is)
    (case l1 => k_is)
    (case c1 => k_is)
    (case k1 => k_is)
    (case a2 => k_is)
    (case i2 => k_is)
    (case l2 => k_is)
    (case c2 => k_is)
    (case k2 => k_is)
    (case a3 => k_is)
    (case l3 => k_is)
    (case c3 => k_is)
    (case k3 => k_is)
    (case a4 => k_is)
    (case l4 => k_is)
    (case c4 => k_is)
    (case k4 => k_is)
    (case a5 => k_is)
    (case l5 => k_is)
    (case c5 => k_is)
    (case k5 => k_is)
    (case a6 => k_is)
    (case l6 => k_is)
    (case c6 => k_is)
    (case k6 => k_is)
    (case a7 => k_is)
    (case l7 => k_is)
    (case c7 => k_is)
    (case k7 => k_is)
    (case a8 => k_is)
    (case l8 => k_is)
    (case c8 => k_is)
    (case k8 => k_is)
    (case a9 => k_is)
    (case l9 => k_is)
    (case c9 => k_is)
    (case k9 => k_is)
    (case a10 => k_is)
    (case l10 => k_is)
    (case c10 => k_is)
    (case k10 => k_is)
    (case a11 => k_is)
    (case l11 => k_is)
    (case c11 => k_is)
    (case k11 => k_is)
    (case a12 => k_is)
    (case l12 => k_is)
    (case c12 => k_is)
    (case k12 => k_is)
    (case a13 => k_is)
    (case l13 => k_is)
    (case c13 => k_is)
    (case k13 => k_is)
    (case a14 => k_is)
    (case l14 => k_is)
    (case c14 => k_is)
    (case k14 => k_is)
    (case a15 => k_is)
    (case l15 => k_is)
    (case c15 => k_is)
    (case k15 => k_is)
    (case a16 => k_is)
    (case l16 => k_is)
    (case c16 => k_is)
    (case k16 => k_is)
    (case a17 => k_is)
    (case l17 => k_is)
    (case c17 => k_is)
    (case k17 => k_is)
    (case a18 => k_is)
    (case l18 => k_is)
    (case c18 => k_is)
    (case k18 => k_is)
    (case a19 => k_is)
    (case l19 => k_is)
    (case c19 => k_is)
    (case k19 => k_is)
    (case a20 => k_is)
    (case l20 => k_is)
    (case c20 => k_is)
    (case k20 => k_is)
    (case a21 => k_is)
    (case l21 => k_is)
    (case c21 => k_is)
    (case k21 => k_is)
    (case a22 => k_is)
    (case l22 => k_is)
    (case c22 => k_is)
    (case k22 => k_is)
    (case a23 => k_is)
    (case l23 => k_is)
    (case c23 => k_is)
    (case k23 => k_is)
    (case a24 => k_is)
    (case l24 => k_is)
    (case c24 => k_is)
    (case k24 => k_is)
    (case a25 => k_is)
    (case l25 => k_is)
    (case c25 => k_is)
    (case k25 => k_is)
    (case a26 => k_is)
    (case l26 => k_is)
    (case c26 => k_is)
    (case k26 => k_is)
    (case a27 => k_is)
    (case l27 => k_is)
    (case c27 => k_is)
    (case k27 => k_is)
    (case a28 => k_is)
    (case l28 => k_is)
    (case c28 => k_is)
    (case k28 => k_is)
    (case a29 => k_is)
    (case l29 => k_is)
    (case c29 => k_is)
    (case k29 => k_is)
    (case a30 => k_is)
    (case l30 => k_is)
    (case c30 => k_is)
    (case k30 => k_is)
    (case z0 => k_is)
    (case z1 => k_is)
    (case z2 => k_is)
    (case z3 => k_is)
    (case z4 => k_is)
    (case z5 => k_is)
    (case z6 => k_is)
    (case z7 => k_is)
    (case z8 => k_is)
    (case z9 => k_is)
    (case z10 => k_is)
    (case z11 => k_is)
    (case z12 => k_is)
    (case z13 => k_is)
    (case e12 => exact rfl)
    (case t12 => k_is)
    (case p12 => exact rfl)
    (case n12 => kernel_rfl)
    (case e15 => exact rfl)
    (case t15 => k_is)
    (case p15 => exact rfl)
    (case n15 => kernel_rfl)
    (case ne12_15 => decide)

